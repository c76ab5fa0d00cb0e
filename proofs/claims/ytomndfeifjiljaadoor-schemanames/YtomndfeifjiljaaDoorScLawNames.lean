/- SchemaNames' walk. -/
import Derived.Test.YtomndfeifjiljaaDoorScAwake
import Derived.Test.YtomndfeifjiljaaDoorScNames
import Derived.Test.YtomndfeifjiljaaDoorSched
namespace Go.Proofs.YtomndfeifjiljaaDoor
open Go.RowKit

set_option maxRecDepth 100000 in
set_option maxHeartbeats 4000000 in
theorem schemaNames_walk (w : World) (hK : Kt w) (cs : Array Value) (x : Sch) (h : rSch (All w) w cs.toList x) (i : Int) (hi0 : -9223372036854775808 ≤ i) (hi1 : i ≤ 9223372036854775807) (k : Int) (hk0 : -9223372036854775808 ≤ k) (hk1 : k ≤ 9223372036854775807) (n : ByteArray) (_hn : n.size ≤ maxLen) :
    Calls Tryd.prog 5 #[.agg cs, .int .i64 i, .int .i64 k, .string n] w fun e w' => e = .returned (.bool true) ∧ Below w.heap.size w w' := by
  obtain ⟨A, c, rfl, hlc, hcm, hx⟩ := sch_arg h
  clear h
  simp only [maxLen] at hcm
  have hB0 : Below w.heap.size w (w.alloc (.cells #[.slice A x.length c] 24)) := (Below.refl _ w).alloc (Nat.le_refl _) _
  have b0 := Blk.new w 24 [.slice A x.length c]
  have TF := Lib.hid (fun W (hW : Below w.heap.size w W) => sfew_any A x.length c x 10 W (sch_below hW hx))
  have TM := Lib.hid (fun W (hW : Below w.heap.size w W) => may_any A x.length c x W (sch_below hW hx))
  have HM := Lib.hid (fun (h : mayS x = true) i t => mayS_at h (i := i) (t := t))
  generalize fewS x 10 = few at *
  generalize mayS x = may at *
  go_enter Tryd.func5, Tryd.ntmps5
  go_wp2_with fail
  refine (sawake_any _ (hK.below hB0)).mono ?_
  rintro e w1 ⟨rfl, hC1⟩
  have hB1 := hB0.trans (hC1.mono hB0.size)
  have b1 : Blk w1 w.heap.size 24 [.slice A x.length c] := b0.to hC1
  have c1 := b1.cell (j := 0) rfl
  clear hC1 hB0 b0 hK
  go_wp2_with fail
  refine (TF.out _ hB1).mono ?_
  rintro e w2 ⟨rfl, hC2⟩
  have hB2 := hB1.trans (hC2.mono hB1.size)
  have b2 := b1.to hC2
  have c2 := b2.cell (j := 0) rfl
  clear hC2 hB1 b1 c1
  cases few
  · go_wp2
    go_ret
    exact ⟨rfl, hB2⟩
  · go_wp2_with fail
    refine (TM.out _ hB2).mono ?_
    rintro e w3 ⟨rfl, hC3⟩
    have hB3 := hB2.trans (hC3.mono hB2.size)
    have b3 := b2.to hC3
    have c3 := b3.cell (j := 0) rfl
    clear hC3 hB2 b2 c2
    cases may
    · go_wp2
      go_ret
      exact ⟨rfl, hB3⟩
    · rcases int_cases i x.length with hi | hi | ⟨I, rfl, hI⟩
      · have hi' : decide (i < 0) = true := decide_eq_true hi
        go_wp2
        go_ret
        exact ⟨rfl, hB3⟩
      · have hi' : decide (i < 0) = false := decide_eq_false (by omega)
        have hi2 : decide ((x.length : Int) ≤ i) = true := decide_eq_true hi
        go_wp2
        go_ret
        exact ⟨rfl, hB3⟩
      · have hxi : x[I]? = some x[I] := List.getElem?_eq_getElem hI
        obtain ⟨hf1, hf2⟩ := HM.out (by simp) I x[I] hxi
        obtain ⟨b, off, s, A2, c2, rfl, hb, p1, p2, e1, hss, hfs⟩ := typ_at (sch_below hB3 hx) hxi
        have hI1 : decide ((x.length : Int) ≤ (I : Int)) = false := decide_eq_false (by omega)
        have hI2 : (I : Int) < (x.length : Int) := by omega
        have hI3 : decide ((I : Int) < 0) = false := decide_eq_false (by omega)
        clear HM hxi
        generalize x[I] = t at *
        have hB4 := hB3.alloc hB3.size (.cells #[.string s, .slice A2 t.2.length c2] 34)
        have hC4 : Below w3.heap.size w3 (w3.alloc (.cells #[.string s, .slice A2 t.2.length c2] 34)) := (Below.refl _ w3).alloc (Nat.le_refl _) _
        have b4 := b3.to hC4
        have d4 := Blk.new w3 34 [.string s, .slice A2 t.2.length c2]
        have hfs4 := flds_below hC4 hfs
        have TJ := Lib.hid (fun W (hW : Below w.heap.size w W) m => find_any (some ⟨b, off, none⟩) x.length c x m W (sch_below hW hx))
        have TG := Lib.hid (fun W (hW : Below (w3.alloc (.cells #[.string s, .slice A2 t.2.length c2] 34)).heap.size (w3.alloc (.cells #[.string s, .slice A2 t.2.length c2] 34)) W) m => field_any s A2 t.2.length c2 t.2 m W (flds_below hW hfs4))
        have c4 := b4.cell (j := 0) rfl
        clear hB3 b3 hC4 hfs
        go_wp2_with fail
        refine (TJ.out _ hB4 n).mono ?_
        rintro e w5 ⟨rfl, hC5⟩
        have hB5 := hB4.trans (hC5.mono hB4.size)
        have b5 := b4.to hC5
        have d5 : Blk w5 w3.heap.size 34 [.string s, .slice A2 t.2.length c2] := d4.to hC5
        have c5 := b5.cell (j := 0) rfl
        have f50 := d5.cell (j := 0) rfl
        have f51 := d5.cell (j := 1) rfl
        go_wp2_with fail
        refine (TG.out _ hC5 n).mono ?_
        rintro e w6 ⟨rfl, hC6⟩
        have hB6 := hB5.trans (hC6.mono hB5.size)
        have b6 := b5.to hC6
        have d6 := d5.to hC6
        have c6 := b6.cell (j := 0) rfl
        have f60 := d6.cell (j := 0) rfl
        have f61 := d6.cell (j := 1) rfl
        have hD6 := hC5.trans (hC6.mono hC5.size)
        clear hC5 hC6 b5 d5 b4 d4 hB4 hB5 c4 c5 f50 f51 c3
        go_wp2_with fail
        refine (TJ.out _ hB6 s).mono ?_
        rintro e w7 ⟨rfl, hC7⟩
        have hB7 := hB6.trans (hC7.mono hB6.size)
        have b7 := b6.to hC7
        have d7 := d6.to hC7
        have c7 := b7.cell (j := 0) rfl
        have f70 := d7.cell (j := 0) rfl
        have f71 := d7.cell (j := 1) rfl
        have hD7 := hD6.trans (hC7.mono hD6.size)
        have hx7 := sch_below hB7 hx
        have hfs7 := flds_below hD7 hfs4
        clear hC7 b6 d6 hB6 c6 f60 f61 hD6 hfs4 TJ TF TM p1 p2
        rw [e1, hf1]
        have HJ : findS x (byt n) = -1 ∨ ∃ (j : Nat) (t : Typ), findS x (byt n) = (j : Int) ∧ x[j]? = some t ∧ t.1 = byt n := by
          by_cases h0 : findS x (byt n) < 0
          · exact .inl (by have := findS_low x (byt n); omega)
          · obtain ⟨j, hj⟩ := Int.eq_ofNat_of_zero_le (show 0 ≤ findS x (byt n) by omega)
            obtain ⟨t, h1, h2⟩ := findS_at hj
            exact .inr ⟨j, t, hj, h1, h2⟩
        have HG : fieldS t.2 (byt n) = -1 ∨ ∃ (j : Nat) (f : Fld), fieldS t.2 (byt n) = (j : Int) ∧ t.2[j]? = some f ∧ f.1 = byt n := by
          by_cases h0 : fieldS t.2 (byt n) < 0
          · exact .inl (by have := fieldS_low t.2 (byt n); omega)
          · obtain ⟨j, hj⟩ := Int.eq_ofNat_of_zero_le (show 0 ≤ fieldS t.2 (byt n) by omega)
            obtain ⟨t, h1, h2⟩ := fieldS_at hj
            exact .inr ⟨j, t, hj, h1, h2⟩
        generalize findS x (byt n) = J at *
        generalize fieldS t.2 (byt n) = G at *
        have hI4 : ((I : Int) != (I : Int)) = false := by simp
        have hfl := flds_len hfs7
        simp only [maxLen] at hfl
        have hfl2 : t.2.length ≤ 9223372036854775807 := by omega
        clear hf1 e1 hlc hfl
        have Hf2 := Lib.hid hf2
        clear hf2
        rcases HJ with rfl | ⟨j, tj, rfl, hxj, htj⟩
        · rcases HG with rfl | ⟨m, fm, rfl, hfm, hfn⟩
          · rcases int_cases k t.2.length with hk | hk | ⟨q, rfl, hq⟩
            · have hk' : decide (k < 0) = true := decide_eq_true hk
              go_wp2
              refine sch_start [(0, true), (1, true), (2, true), (3, true), (4, true), (5, true), (6, true), (7, true), (8, true), (9, true), (10, true), (11, true), (12, true), (13, true), (14, true), (15, true), (16, true), (18, true), (17, false), (19, true), (20, true), (21, true)]
                (fun W => W.cell? ⟨w3.heap.size, 0, none⟩ = some (.string s) ∧ W.cell? ⟨w3.heap.size, 1, none⟩ = some (.slice A2 t.2.length c2)) (by kernel_rfl) rfl (by kernel_rfl) (fun _ _ _ _ _ h => h) ⟨f70, f71⟩ (fun hH => ?_)
              repeat (first | (refine sch_yes (v := ?_) rfl rfl ?_ hH ?_; rotate_left; (focus ((rintro W ⟨hW1, hW2⟩; go_simp) <;> with_reducible rfl)); simp only [Act.put, List.setIfInBounds_toArray, List.set_cons_zero, List.set_cons_succ]) | (refine sch_no rfl rfl hH ?_; simp only [Act.put, List.setIfInBounds_toArray, List.set_cons_zero, List.set_cons_succ]))
              refine sch_call_no rfl rfl hH ?_
              repeat (first | (refine sch_yes (v := ?_) rfl rfl ?_ hH ?_; rotate_left; (focus ((rintro W ⟨hW1, hW2⟩; go_simp) <;> with_reducible rfl)); simp only [Act.put, List.setIfInBounds_toArray, List.set_cons_zero, List.set_cons_succ]) | (refine sch_no rfl rfl hH ?_; simp only [Act.put, List.setIfInBounds_toArray, List.set_cons_zero, List.set_cons_succ]))
              refine sch_done ?_
              clear hH
              go_wp2
              go_ret
              exact ⟨rfl, hB7.drew⟩
            · have hk' : decide (k < 0) = false := decide_eq_false (by omega)
              have hk2 : decide ((t.2.length : Int) ≤ k) = true := decide_eq_true hk
              go_wp2
              refine sch_start [(0, true), (1, true), (2, true), (3, true), (4, true), (5, true), (6, true), (7, true), (8, true), (9, true), (10, true), (11, true), (12, true), (13, true), (14, true), (15, true), (16, true), (18, true), (17, false), (19, true), (20, true), (21, true)]
                (fun W => W.cell? ⟨w3.heap.size, 0, none⟩ = some (.string s) ∧ W.cell? ⟨w3.heap.size, 1, none⟩ = some (.slice A2 t.2.length c2)) (by kernel_rfl) rfl (by kernel_rfl) (fun _ _ _ _ _ h => h) ⟨f70, f71⟩ (fun hH => ?_)
              repeat (first | (refine sch_yes (v := ?_) rfl rfl ?_ hH ?_; rotate_left; (focus ((rintro W ⟨hW1, hW2⟩; go_simp) <;> with_reducible rfl)); simp only [Act.put, List.setIfInBounds_toArray, List.set_cons_zero, List.set_cons_succ]) | (refine sch_no rfl rfl hH ?_; simp only [Act.put, List.setIfInBounds_toArray, List.set_cons_zero, List.set_cons_succ]))
              refine sch_call_no rfl rfl hH ?_
              repeat (first | (refine sch_yes (v := ?_) rfl rfl ?_ hH ?_; rotate_left; (focus ((rintro W ⟨hW1, hW2⟩; go_simp) <;> with_reducible rfl)); simp only [Act.put, List.setIfInBounds_toArray, List.set_cons_zero, List.set_cons_succ]) | (refine sch_no rfl rfl hH ?_; simp only [Act.put, List.setIfInBounds_toArray, List.set_cons_zero, List.set_cons_succ]))
              refine sch_done ?_
              clear hH
              go_wp2
              go_ret
              exact ⟨rfl, hB7.drew⟩
            · have hk' : decide ((q : Int) < 0) = false := decide_eq_false (by omega)
              have hk2 : decide ((t.2.length : Int) ≤ (q : Int)) = false := decide_eq_false (by omega)
              have hk5 : decide (t.2.length ≤ q) = false := decide_eq_false (by omega)
              have hk3 : (q : Int) < (t.2.length : Int) := by omega
              have hk4 : (0 : Int) ≤ (q : Int) := by omega
              have hfq : t.2[q]? = some t.2[q] := List.getElem?_eq_getElem hq
              obtain ⟨b', off', sf, tf, hA2, hb', g1, -, -, ge, -, -, -, -⟩ := fld_at hfs7 hfq
              have Hq := Hf2.out q _ hfq
              rw [← ge] at Hq
              have HTG := Lib.hid (fun W hW => TG.out W hW sf)
              rw [Hq] at HTG
              clear Hq ge hfq TG Hf2 hq
              subst hA2
              go_wp2
              refine sch_start [(0, true), (1, true), (2, true), (3, true), (4, true), (5, true), (6, true), (7, true), (8, true), (9, true), (10, true), (11, true), (12, true), (13, true), (14, true), (15, true), (16, true), (18, true), (17, false), (19, true), (20, true), (21, true)]
                (fun W => W.cell? ⟨w3.heap.size, 0, none⟩ = some (.string s) ∧ W.cell? ⟨w3.heap.size, 1, none⟩ = some (.slice (some ⟨b', off', none⟩) t.2.length c2) ∧ W.cell? ⟨b', off' + q * 3, none⟩ = some (.string sf)) (by kernel_rfl) rfl (by kernel_rfl) (fun _ _ _ _ _ h => h) ⟨f70, f71, g1⟩ (fun hH => ?_)
              repeat (first | (refine sch_yes (v := ?_) rfl rfl ?_ hH ?_; rotate_left; (focus ((rintro W ⟨hW1, hW2, hW3⟩; go_simp) <;> with_reducible rfl)); simp only [Act.put, List.setIfInBounds_toArray, List.set_cons_zero, List.set_cons_succ]) | (refine sch_no rfl rfl hH ?_; simp only [Act.put, List.setIfInBounds_toArray, List.set_cons_zero, List.set_cons_succ]))
              refine sch_call rfl rfl (fun K hK => ?_)
              go_wp2_with (go_at_call 15; refine (HTG.out _ hD7.drew).mono ?_; rintro e w8 ⟨rfl, hC8⟩)
              have hC8' : Below w7.heap.size w7 w8 := (Below.refl w7.heap.size w7).drew.trans hC8
              have hH8 := And.intro ((hC8'.cell (p := ⟨w3.heap.size, 0, none⟩) d7.lt).trans f70) (And.intro ((hC8'.cell (p := ⟨w3.heap.size, 1, none⟩) d7.lt).trans f71) ((hC8'.cell (p := ⟨b', off' + q * 3, none⟩) hb').trans g1))
              refine hK.out _ _ hH8 ?_
              clear hK hH
              have hH := hH8
              repeat (first | (refine sch_yes (v := ?_) rfl rfl ?_ hH ?_; rotate_left; (focus ((rintro W ⟨hW1, hW2, hW3⟩; go_simp) <;> with_reducible rfl)); simp only [Act.put, List.setIfInBounds_toArray, List.set_cons_zero, List.set_cons_succ]) | (refine sch_no rfl rfl hH ?_; simp only [Act.put, List.setIfInBounds_toArray, List.set_cons_zero, List.set_cons_succ]))
              refine sch_done ?_
              clear hH hH8
              go_wp2
              go_ret
              exact ⟨by simp, hB7.trans (hC8'.mono hB7.size)⟩
          · have hfmq := (List.getElem?_eq_some_iff.1 hfm).1
            obtain ⟨bm, om, sm, tm, hAm, -, gm, -, -, gme, -, -, -, -⟩ := fld_at hfs7 hfm
            have hm1 : decide ((0 : Int) ≤ (m : Int)) = true := decide_eq_true (by omega)
            have hm2 : decide ((t.2.length : Int) ≤ (m : Int)) = false := decide_eq_false (by omega)
            have hm3 : (m : Int) < (t.2.length : Int) := by omega
            have hm4 : (0 : Int) ≤ (m : Int) := by omega
            have hm5 : (sm.toList == n.toList) = true := by rw [str_beq, gme, hfn]; simp
            clear hfm hfn gme hfmq
            subst hAm
            rcases int_cases k t.2.length with hk | hk | ⟨q, rfl, hq⟩
            · have hk' : decide (k < 0) = true := decide_eq_true hk
              go_wp2
              refine sch_start [(0, true), (1, true), (2, true), (3, true), (4, true), (5, true), (6, true), (7, true), (8, true), (9, true), (10, true), (11, true), (12, true), (13, true), (14, true), (15, true), (16, true), (18, true), (17, false), (19, true), (20, true), (21, true)]
                (fun W => W.cell? ⟨w3.heap.size, 0, none⟩ = some (.string s) ∧ W.cell? ⟨w3.heap.size, 1, none⟩ = some (.slice (some ⟨bm, om, none⟩) t.2.length c2)) (by kernel_rfl) rfl (by kernel_rfl) (fun _ _ _ _ _ h => h) ⟨f70, f71⟩ (fun hH => ?_)
              repeat (first | (refine sch_yes (v := ?_) rfl rfl ?_ hH ?_; rotate_left; (focus ((rintro W ⟨hW1, hW2⟩; go_simp) <;> with_reducible rfl)); simp only [Act.put, List.setIfInBounds_toArray, List.set_cons_zero, List.set_cons_succ]) | (refine sch_no rfl rfl hH ?_; simp only [Act.put, List.setIfInBounds_toArray, List.set_cons_zero, List.set_cons_succ]))
              refine sch_call_no rfl rfl hH ?_
              repeat (first | (refine sch_yes (v := ?_) rfl rfl ?_ hH ?_; rotate_left; (focus ((rintro W ⟨hW1, hW2⟩; go_simp) <;> with_reducible rfl)); simp only [Act.put, List.setIfInBounds_toArray, List.set_cons_zero, List.set_cons_succ]) | (refine sch_no rfl rfl hH ?_; simp only [Act.put, List.setIfInBounds_toArray, List.set_cons_zero, List.set_cons_succ]))
              refine sch_done ?_
              clear hH
              go_wp2
              go_ret
              exact ⟨rfl, hB7.drew⟩
            · have hk' : decide (k < 0) = false := decide_eq_false (by omega)
              have hk2 : decide ((t.2.length : Int) ≤ k) = true := decide_eq_true hk
              go_wp2
              refine sch_start [(0, true), (1, true), (2, true), (3, true), (4, true), (5, true), (6, true), (7, true), (8, true), (9, true), (10, true), (11, true), (12, true), (13, true), (14, true), (15, true), (16, true), (18, true), (17, false), (19, true), (20, true), (21, true)]
                (fun W => W.cell? ⟨w3.heap.size, 0, none⟩ = some (.string s) ∧ W.cell? ⟨w3.heap.size, 1, none⟩ = some (.slice (some ⟨bm, om, none⟩) t.2.length c2)) (by kernel_rfl) rfl (by kernel_rfl) (fun _ _ _ _ _ h => h) ⟨f70, f71⟩ (fun hH => ?_)
              repeat (first | (refine sch_yes (v := ?_) rfl rfl ?_ hH ?_; rotate_left; (focus ((rintro W ⟨hW1, hW2⟩; go_simp) <;> with_reducible rfl)); simp only [Act.put, List.setIfInBounds_toArray, List.set_cons_zero, List.set_cons_succ]) | (refine sch_no rfl rfl hH ?_; simp only [Act.put, List.setIfInBounds_toArray, List.set_cons_zero, List.set_cons_succ]))
              refine sch_call_no rfl rfl hH ?_
              repeat (first | (refine sch_yes (v := ?_) rfl rfl ?_ hH ?_; rotate_left; (focus ((rintro W ⟨hW1, hW2⟩; go_simp) <;> with_reducible rfl)); simp only [Act.put, List.setIfInBounds_toArray, List.set_cons_zero, List.set_cons_succ]) | (refine sch_no rfl rfl hH ?_; simp only [Act.put, List.setIfInBounds_toArray, List.set_cons_zero, List.set_cons_succ]))
              refine sch_done ?_
              clear hH
              go_wp2
              go_ret
              exact ⟨rfl, hB7.drew⟩
            · have hk' : decide ((q : Int) < 0) = false := decide_eq_false (by omega)
              have hk2 : decide ((t.2.length : Int) ≤ (q : Int)) = false := decide_eq_false (by omega)
              have hk5 : decide (t.2.length ≤ q) = false := decide_eq_false (by omega)
              have hk3 : (q : Int) < (t.2.length : Int) := by omega
              have hk4 : (0 : Int) ≤ (q : Int) := by omega
              have hfq : t.2[q]? = some t.2[q] := List.getElem?_eq_getElem hq
              obtain ⟨b', off', sf, tf, hA2, hb', g1, -, -, ge, -, -, -, -⟩ := fld_at hfs7 hfq
              have Hq := Hf2.out q _ hfq
              rw [← ge] at Hq
              have HTG := Lib.hid (fun W hW => TG.out W hW sf)
              rw [Hq] at HTG
              clear Hq ge hfq TG Hf2 hq
              injection hA2 with hA2
              injection hA2 with hA3 hA4
              subst hA3 hA4
              go_wp2
              refine sch_start [(0, true), (1, true), (2, true), (3, true), (4, true), (5, true), (6, true), (7, true), (8, true), (9, true), (10, true), (11, true), (12, true), (13, true), (14, true), (15, true), (16, true), (18, true), (17, false), (19, true), (20, true), (21, true)]
                (fun W => W.cell? ⟨w3.heap.size, 0, none⟩ = some (.string s) ∧ W.cell? ⟨w3.heap.size, 1, none⟩ = some (.slice (some ⟨bm, om, none⟩) t.2.length c2) ∧ W.cell? ⟨bm, om + q * 3, none⟩ = some (.string sf)) (by kernel_rfl) rfl (by kernel_rfl) (fun _ _ _ _ _ h => h) ⟨f70, f71, g1⟩ (fun hH => ?_)
              repeat (first | (refine sch_yes (v := ?_) rfl rfl ?_ hH ?_; rotate_left; (focus ((rintro W ⟨hW1, hW2, hW3⟩; go_simp) <;> with_reducible rfl)); simp only [Act.put, List.setIfInBounds_toArray, List.set_cons_zero, List.set_cons_succ]) | (refine sch_no rfl rfl hH ?_; simp only [Act.put, List.setIfInBounds_toArray, List.set_cons_zero, List.set_cons_succ]))
              refine sch_call rfl rfl (fun K hK => ?_)
              go_wp2_with (go_at_call 15; refine (HTG.out _ hD7.drew).mono ?_; rintro e w8 ⟨rfl, hC8⟩)
              have hC8' : Below w7.heap.size w7 w8 := (Below.refl w7.heap.size w7).drew.trans hC8
              have hH8 := And.intro ((hC8'.cell (p := ⟨w3.heap.size, 0, none⟩) d7.lt).trans f70) (And.intro ((hC8'.cell (p := ⟨w3.heap.size, 1, none⟩) d7.lt).trans f71) ((hC8'.cell (p := ⟨bm, om + q * 3, none⟩) hb').trans g1))
              refine hK.out _ _ hH8 ?_
              clear hK hH
              have hH := hH8
              repeat (first | (refine sch_yes (v := ?_) rfl rfl ?_ hH ?_; rotate_left; (focus ((rintro W ⟨hW1, hW2, hW3⟩; go_simp) <;> with_reducible rfl)); simp only [Act.put, List.setIfInBounds_toArray, List.set_cons_zero, List.set_cons_succ]) | (refine sch_no rfl rfl hH ?_; simp only [Act.put, List.setIfInBounds_toArray, List.set_cons_zero, List.set_cons_succ]))
              refine sch_done ?_
              clear hH hH8
              go_wp2
              go_ret
              exact ⟨by simp, hB7.trans (hC8'.mono hB7.size)⟩
        · have hxjl := (List.getElem?_eq_some_iff.1 hxj).1
          obtain ⟨bj, oj, sj, Aj, cj, hAj, -, pj, -, pje, -, -⟩ := typ_at hx7 hxj
          have hj1 : decide ((0 : Int) ≤ (j : Int)) = true := decide_eq_true (by omega)
          have hj2 : decide ((x.length : Int) ≤ (j : Int)) = false := decide_eq_false (by omega)
          have hj3 : (j : Int) < (x.length : Int) := by omega
          have hj4 : (0 : Int) ≤ (j : Int) := by omega
          have hj5 : (sj.toList == n.toList) = true := by rw [str_beq, pje, htj]; simp
          clear hxj htj pje hxjl
          injection hAj with hAj
          injection hAj with hb1 hb2
          subst hb1 hb2
          rcases HG with rfl | ⟨m, fm, rfl, hfm, hfn⟩
          · rcases int_cases k t.2.length with hk | hk | ⟨q, rfl, hq⟩
            · have hk' : decide (k < 0) = true := decide_eq_true hk
              go_wp2
              refine sch_start [(0, true), (1, true), (2, true), (3, true), (4, true), (5, true), (6, true), (7, true), (8, true), (9, true), (10, true), (11, true), (12, true), (13, true), (14, true), (15, true), (16, true), (18, true), (17, false), (19, true), (20, true), (21, true)]
                (fun W => W.cell? ⟨w3.heap.size, 0, none⟩ = some (.string s) ∧ W.cell? ⟨w3.heap.size, 1, none⟩ = some (.slice A2 t.2.length c2)) (by kernel_rfl) rfl (by kernel_rfl) (fun _ _ _ _ _ h => h) ⟨f70, f71⟩ (fun hH => ?_)
              repeat (first | (refine sch_yes (v := ?_) rfl rfl ?_ hH ?_; rotate_left; (focus ((rintro W ⟨hW1, hW2⟩; go_simp) <;> with_reducible rfl)); simp only [Act.put, List.setIfInBounds_toArray, List.set_cons_zero, List.set_cons_succ]) | (refine sch_no rfl rfl hH ?_; simp only [Act.put, List.setIfInBounds_toArray, List.set_cons_zero, List.set_cons_succ]))
              refine sch_call_no rfl rfl hH ?_
              repeat (first | (refine sch_yes (v := ?_) rfl rfl ?_ hH ?_; rotate_left; (focus ((rintro W ⟨hW1, hW2⟩; go_simp) <;> with_reducible rfl)); simp only [Act.put, List.setIfInBounds_toArray, List.set_cons_zero, List.set_cons_succ]) | (refine sch_no rfl rfl hH ?_; simp only [Act.put, List.setIfInBounds_toArray, List.set_cons_zero, List.set_cons_succ]))
              refine sch_done ?_
              clear hH
              go_wp2
              go_ret
              exact ⟨rfl, hB7.drew⟩
            · have hk' : decide (k < 0) = false := decide_eq_false (by omega)
              have hk2 : decide ((t.2.length : Int) ≤ k) = true := decide_eq_true hk
              go_wp2
              refine sch_start [(0, true), (1, true), (2, true), (3, true), (4, true), (5, true), (6, true), (7, true), (8, true), (9, true), (10, true), (11, true), (12, true), (13, true), (14, true), (15, true), (16, true), (18, true), (17, false), (19, true), (20, true), (21, true)]
                (fun W => W.cell? ⟨w3.heap.size, 0, none⟩ = some (.string s) ∧ W.cell? ⟨w3.heap.size, 1, none⟩ = some (.slice A2 t.2.length c2)) (by kernel_rfl) rfl (by kernel_rfl) (fun _ _ _ _ _ h => h) ⟨f70, f71⟩ (fun hH => ?_)
              repeat (first | (refine sch_yes (v := ?_) rfl rfl ?_ hH ?_; rotate_left; (focus ((rintro W ⟨hW1, hW2⟩; go_simp) <;> with_reducible rfl)); simp only [Act.put, List.setIfInBounds_toArray, List.set_cons_zero, List.set_cons_succ]) | (refine sch_no rfl rfl hH ?_; simp only [Act.put, List.setIfInBounds_toArray, List.set_cons_zero, List.set_cons_succ]))
              refine sch_call_no rfl rfl hH ?_
              repeat (first | (refine sch_yes (v := ?_) rfl rfl ?_ hH ?_; rotate_left; (focus ((rintro W ⟨hW1, hW2⟩; go_simp) <;> with_reducible rfl)); simp only [Act.put, List.setIfInBounds_toArray, List.set_cons_zero, List.set_cons_succ]) | (refine sch_no rfl rfl hH ?_; simp only [Act.put, List.setIfInBounds_toArray, List.set_cons_zero, List.set_cons_succ]))
              refine sch_done ?_
              clear hH
              go_wp2
              go_ret
              exact ⟨rfl, hB7.drew⟩
            · have hk' : decide ((q : Int) < 0) = false := decide_eq_false (by omega)
              have hk2 : decide ((t.2.length : Int) ≤ (q : Int)) = false := decide_eq_false (by omega)
              have hk5 : decide (t.2.length ≤ q) = false := decide_eq_false (by omega)
              have hk3 : (q : Int) < (t.2.length : Int) := by omega
              have hk4 : (0 : Int) ≤ (q : Int) := by omega
              have hfq : t.2[q]? = some t.2[q] := List.getElem?_eq_getElem hq
              obtain ⟨b', off', sf, tf, hA2, hb', g1, -, -, ge, -, -, -, -⟩ := fld_at hfs7 hfq
              have Hq := Hf2.out q _ hfq
              rw [← ge] at Hq
              have HTG := Lib.hid (fun W hW => TG.out W hW sf)
              rw [Hq] at HTG
              clear Hq ge hfq TG Hf2 hq
              subst hA2
              go_wp2
              refine sch_start [(0, true), (1, true), (2, true), (3, true), (4, true), (5, true), (6, true), (7, true), (8, true), (9, true), (10, true), (11, true), (12, true), (13, true), (14, true), (15, true), (16, true), (18, true), (17, false), (19, true), (20, true), (21, true)]
                (fun W => W.cell? ⟨w3.heap.size, 0, none⟩ = some (.string s) ∧ W.cell? ⟨w3.heap.size, 1, none⟩ = some (.slice (some ⟨b', off', none⟩) t.2.length c2) ∧ W.cell? ⟨b', off' + q * 3, none⟩ = some (.string sf)) (by kernel_rfl) rfl (by kernel_rfl) (fun _ _ _ _ _ h => h) ⟨f70, f71, g1⟩ (fun hH => ?_)
              repeat (first | (refine sch_yes (v := ?_) rfl rfl ?_ hH ?_; rotate_left; (focus ((rintro W ⟨hW1, hW2, hW3⟩; go_simp) <;> with_reducible rfl)); simp only [Act.put, List.setIfInBounds_toArray, List.set_cons_zero, List.set_cons_succ]) | (refine sch_no rfl rfl hH ?_; simp only [Act.put, List.setIfInBounds_toArray, List.set_cons_zero, List.set_cons_succ]))
              refine sch_call rfl rfl (fun K hK => ?_)
              go_wp2_with (go_at_call 15; refine (HTG.out _ hD7.drew).mono ?_; rintro e w8 ⟨rfl, hC8⟩)
              have hC8' : Below w7.heap.size w7 w8 := (Below.refl w7.heap.size w7).drew.trans hC8
              have hH8 := And.intro ((hC8'.cell (p := ⟨w3.heap.size, 0, none⟩) d7.lt).trans f70) (And.intro ((hC8'.cell (p := ⟨w3.heap.size, 1, none⟩) d7.lt).trans f71) ((hC8'.cell (p := ⟨b', off' + q * 3, none⟩) hb').trans g1))
              refine hK.out _ _ hH8 ?_
              clear hK hH
              have hH := hH8
              repeat (first | (refine sch_yes (v := ?_) rfl rfl ?_ hH ?_; rotate_left; (focus ((rintro W ⟨hW1, hW2, hW3⟩; go_simp) <;> with_reducible rfl)); simp only [Act.put, List.setIfInBounds_toArray, List.set_cons_zero, List.set_cons_succ]) | (refine sch_no rfl rfl hH ?_; simp only [Act.put, List.setIfInBounds_toArray, List.set_cons_zero, List.set_cons_succ]))
              refine sch_done ?_
              clear hH hH8
              go_wp2
              go_ret
              exact ⟨by simp, hB7.trans (hC8'.mono hB7.size)⟩
          · have hfmq := (List.getElem?_eq_some_iff.1 hfm).1
            obtain ⟨bm, om, sm, tm, hAm, -, gm, -, -, gme, -, -, -, -⟩ := fld_at hfs7 hfm
            have hm1 : decide ((0 : Int) ≤ (m : Int)) = true := decide_eq_true (by omega)
            have hm2 : decide ((t.2.length : Int) ≤ (m : Int)) = false := decide_eq_false (by omega)
            have hm3 : (m : Int) < (t.2.length : Int) := by omega
            have hm4 : (0 : Int) ≤ (m : Int) := by omega
            have hm5 : (sm.toList == n.toList) = true := by rw [str_beq, gme, hfn]; simp
            clear hfm hfn gme hfmq
            subst hAm
            rcases int_cases k t.2.length with hk | hk | ⟨q, rfl, hq⟩
            · have hk' : decide (k < 0) = true := decide_eq_true hk
              go_wp2
              refine sch_start [(0, true), (1, true), (2, true), (3, true), (4, true), (5, true), (6, true), (7, true), (8, true), (9, true), (10, true), (11, true), (12, true), (13, true), (14, true), (15, true), (16, true), (18, true), (17, false), (19, true), (20, true), (21, true)]
                (fun W => W.cell? ⟨w3.heap.size, 0, none⟩ = some (.string s) ∧ W.cell? ⟨w3.heap.size, 1, none⟩ = some (.slice (some ⟨bm, om, none⟩) t.2.length c2)) (by kernel_rfl) rfl (by kernel_rfl) (fun _ _ _ _ _ h => h) ⟨f70, f71⟩ (fun hH => ?_)
              repeat (first | (refine sch_yes (v := ?_) rfl rfl ?_ hH ?_; rotate_left; (focus ((rintro W ⟨hW1, hW2⟩; go_simp) <;> with_reducible rfl)); simp only [Act.put, List.setIfInBounds_toArray, List.set_cons_zero, List.set_cons_succ]) | (refine sch_no rfl rfl hH ?_; simp only [Act.put, List.setIfInBounds_toArray, List.set_cons_zero, List.set_cons_succ]))
              refine sch_call_no rfl rfl hH ?_
              repeat (first | (refine sch_yes (v := ?_) rfl rfl ?_ hH ?_; rotate_left; (focus ((rintro W ⟨hW1, hW2⟩; go_simp) <;> with_reducible rfl)); simp only [Act.put, List.setIfInBounds_toArray, List.set_cons_zero, List.set_cons_succ]) | (refine sch_no rfl rfl hH ?_; simp only [Act.put, List.setIfInBounds_toArray, List.set_cons_zero, List.set_cons_succ]))
              refine sch_done ?_
              clear hH
              go_wp2
              go_ret
              exact ⟨rfl, hB7.drew⟩
            · have hk' : decide (k < 0) = false := decide_eq_false (by omega)
              have hk2 : decide ((t.2.length : Int) ≤ k) = true := decide_eq_true hk
              go_wp2
              refine sch_start [(0, true), (1, true), (2, true), (3, true), (4, true), (5, true), (6, true), (7, true), (8, true), (9, true), (10, true), (11, true), (12, true), (13, true), (14, true), (15, true), (16, true), (18, true), (17, false), (19, true), (20, true), (21, true)]
                (fun W => W.cell? ⟨w3.heap.size, 0, none⟩ = some (.string s) ∧ W.cell? ⟨w3.heap.size, 1, none⟩ = some (.slice (some ⟨bm, om, none⟩) t.2.length c2)) (by kernel_rfl) rfl (by kernel_rfl) (fun _ _ _ _ _ h => h) ⟨f70, f71⟩ (fun hH => ?_)
              repeat (first | (refine sch_yes (v := ?_) rfl rfl ?_ hH ?_; rotate_left; (focus ((rintro W ⟨hW1, hW2⟩; go_simp) <;> with_reducible rfl)); simp only [Act.put, List.setIfInBounds_toArray, List.set_cons_zero, List.set_cons_succ]) | (refine sch_no rfl rfl hH ?_; simp only [Act.put, List.setIfInBounds_toArray, List.set_cons_zero, List.set_cons_succ]))
              refine sch_call_no rfl rfl hH ?_
              repeat (first | (refine sch_yes (v := ?_) rfl rfl ?_ hH ?_; rotate_left; (focus ((rintro W ⟨hW1, hW2⟩; go_simp) <;> with_reducible rfl)); simp only [Act.put, List.setIfInBounds_toArray, List.set_cons_zero, List.set_cons_succ]) | (refine sch_no rfl rfl hH ?_; simp only [Act.put, List.setIfInBounds_toArray, List.set_cons_zero, List.set_cons_succ]))
              refine sch_done ?_
              clear hH
              go_wp2
              go_ret
              exact ⟨rfl, hB7.drew⟩
            · have hk' : decide ((q : Int) < 0) = false := decide_eq_false (by omega)
              have hk2 : decide ((t.2.length : Int) ≤ (q : Int)) = false := decide_eq_false (by omega)
              have hk5 : decide (t.2.length ≤ q) = false := decide_eq_false (by omega)
              have hk3 : (q : Int) < (t.2.length : Int) := by omega
              have hk4 : (0 : Int) ≤ (q : Int) := by omega
              have hfq : t.2[q]? = some t.2[q] := List.getElem?_eq_getElem hq
              obtain ⟨b', off', sf, tf, hA2, hb', g1, -, -, ge, -, -, -, -⟩ := fld_at hfs7 hfq
              have Hq := Hf2.out q _ hfq
              rw [← ge] at Hq
              have HTG := Lib.hid (fun W hW => TG.out W hW sf)
              rw [Hq] at HTG
              clear Hq ge hfq TG Hf2 hq
              injection hA2 with hA2
              injection hA2 with hA3 hA4
              subst hA3 hA4
              go_wp2
              refine sch_start [(0, true), (1, true), (2, true), (3, true), (4, true), (5, true), (6, true), (7, true), (8, true), (9, true), (10, true), (11, true), (12, true), (13, true), (14, true), (15, true), (16, true), (18, true), (17, false), (19, true), (20, true), (21, true)]
                (fun W => W.cell? ⟨w3.heap.size, 0, none⟩ = some (.string s) ∧ W.cell? ⟨w3.heap.size, 1, none⟩ = some (.slice (some ⟨bm, om, none⟩) t.2.length c2) ∧ W.cell? ⟨bm, om + q * 3, none⟩ = some (.string sf)) (by kernel_rfl) rfl (by kernel_rfl) (fun _ _ _ _ _ h => h) ⟨f70, f71, g1⟩ (fun hH => ?_)
              repeat (first | (refine sch_yes (v := ?_) rfl rfl ?_ hH ?_; rotate_left; (focus ((rintro W ⟨hW1, hW2, hW3⟩; go_simp) <;> with_reducible rfl)); simp only [Act.put, List.setIfInBounds_toArray, List.set_cons_zero, List.set_cons_succ]) | (refine sch_no rfl rfl hH ?_; simp only [Act.put, List.setIfInBounds_toArray, List.set_cons_zero, List.set_cons_succ]))
              refine sch_call rfl rfl (fun K hK => ?_)
              go_wp2_with (go_at_call 15; refine (HTG.out _ hD7.drew).mono ?_; rintro e w8 ⟨rfl, hC8⟩)
              have hC8' : Below w7.heap.size w7 w8 := (Below.refl w7.heap.size w7).drew.trans hC8
              have hH8 := And.intro ((hC8'.cell (p := ⟨w3.heap.size, 0, none⟩) d7.lt).trans f70) (And.intro ((hC8'.cell (p := ⟨w3.heap.size, 1, none⟩) d7.lt).trans f71) ((hC8'.cell (p := ⟨bm, om + q * 3, none⟩) hb').trans g1))
              refine hK.out _ _ hH8 ?_
              clear hK hH
              have hH := hH8
              repeat (first | (refine sch_yes (v := ?_) rfl rfl ?_ hH ?_; rotate_left; (focus ((rintro W ⟨hW1, hW2, hW3⟩; go_simp) <;> with_reducible rfl)); simp only [Act.put, List.setIfInBounds_toArray, List.set_cons_zero, List.set_cons_succ]) | (refine sch_no rfl rfl hH ?_; simp only [Act.put, List.setIfInBounds_toArray, List.set_cons_zero, List.set_cons_succ]))
              refine sch_done ?_
              clear hH hH8
              go_wp2
              go_ret
              exact ⟨by simp, hB7.trans (hC8'.mono hB7.size)⟩
end Go.Proofs.YtomndfeifjiljaaDoor
