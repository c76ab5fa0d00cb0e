/- SchemaTells' walk. Condition: the first schema's names are of at most 1048576 bytes each. -/
import Derived.Test.YtomndfeifjiljaaDoorScAwake
import Derived.Test.YtomndfeifjiljaaDoorScRef4
namespace Go.Proofs.YtomndfeifjiljaaDoor
open Go.RowKit

set_option maxRecDepth 100000 in
set_option maxHeartbeats 8000000 in
theorem schemaTells_walk (w : World) (hK : Kt w) (cs : Array Value) (x : Sch) (h : rSch (All w) w cs.toList x) (htame : tameS x) (ds : Array Value) (y : Sch) (h' : rSch (All w) w ds.toList y) (s : ByteArray) (hs : s.size ≤ maxLen) (n : ByteArray) (_hn : n.size ≤ maxLen) :
    Calls Tryd.prog 3 #[.agg cs, .agg ds, .string s, .string n] w fun e w' => e = .returned (.bool true) ∧ Below w.heap.size w w' := by
  obtain ⟨A, c, rfl, hlc, hcm, hx⟩ := sch_arg h
  obtain ⟨B, d, rfl, hld, hdm, hy⟩ := sch_arg h'
  clear h h'
  simp only [maxLen] at hcm hdm hs
  obtain ⟨W0, hW0⟩ : ∃ W0, W0 = (w.alloc (.cells #[.slice A x.length c] 24)).alloc (.cells #[.slice B y.length d] 24) := ⟨_, rfl⟩
  have hB0 : Below w.heap.size w W0 := by rw [hW0]; exact ((Below.refl _ w).alloc (Nat.le_refl _) _).alloc (by simp) _
  have bA0 : Blk W0 w.heap.size 24 [.slice A x.length c] := by rw [hW0]; exact (Blk.new w 24 [.slice A x.length c]).alloc _
  have bB0 : Blk W0 (w.heap.size + 1) 24 [.slice B y.length d] := by
    have := Blk.new (w.alloc (.cells #[.slice A x.length c] 24)) 24 [.slice B y.length d]
    rw [World.size_alloc] at this
    rw [hW0]; exact this
  have cA := Lib.hid (fun W (hW : Below W0.heap.size W0 W) => (bA0.to hW).cell (j := 0) rfl)
  have cB := Lib.hid (fun W (hW : Below W0.heap.size W0 W) => (bB0.to hW).cell (j := 0) rfl)
  have hW : ∀ W, Below W0.heap.size W0 W → Below w.heap.size w W := fun W hW => hB0.trans (hW.mono hB0.size)
  have KW := Lib.hid (fun W (h : Below W0.heap.size W0 W) => hK.below (hW W h))
  have FA := Lib.hid (fun W h => sfew_any A x.length c x 10 W (sch_below (hW W h) hx))
  have FB := Lib.hid (fun W h => sfew_any B y.length d y 10 W (sch_below (hW W h) hy))
  have MA := Lib.hid (fun W h => may_any A x.length c x W (sch_below (hW W h) hx))
  have RMA := Lib.hid (fun W h => rsmay_any A x.length c x W (sch_below (hW W h) hx) htame)
  have XA := Lib.hid (fun W h => text_any A x.length c x W (hK.below (hW W h)) (sch_below (hW W h) hx))
  have RXA := Lib.hid (fun W h => rtext_any A x.length c x W (sch_below (hW W h) hx) htame)
  have SA := Lib.hid (fun W h => same_any A B x.length c y.length d x y W (sch_below (hW W h) hx) (sch_below (hW W h) hy))
  have RSA := Lib.hid (fun W h => rssame_any A B x.length c y.length d x y W (sch_below (hW W h) hx) (sch_below (hW W h) hy))
  have NA := Lib.hid (fun W h => find_any A x.length c x n W (sch_below (hW W h) hx))
  have RNA := Lib.hid (fun W h => rfind_any A x.length c x n W (sch_below (hW W h) hx))
  have RX := Lib.hid (fun W (h : Below W0.heap.size W0 W) => sch_below (hW W h) hx)
  have HW := Lib.hid hW
  clear hW hK hx hy bA0 bB0 hB0 htame
  generalize fewS x 10 = few at *
  generalize fewS y 10 = also at *
  go_enter Tryd.func3, Tryd.ntmps3
  go_wp2_with fail
  rw [← hW0]
  have hD0 := Below.refl W0.heap.size W0
  refine (sawake_any _ (KW.out _ hD0)).mono ?_
  rintro e w1 ⟨rfl, hD1⟩
  have cA1 := cA.out _ hD1
  have cB1 := cB.out _ hD1
  clear hW0 hD0
  go_wp2_with fail
  refine (FA.out _ hD1).mono ?_
  rintro e w2 ⟨rfl, hC2⟩
  have hD2 := hD1.trans (hC2.mono hD1.size)
  have cA2 := cA.out _ hD2
  have cB2 := cB.out _ hD2
  clear hC2 hD1 cA1 cB1
  go_wp2_with fail
  refine (FB.out _ hD2).mono ?_
  rintro e w3 ⟨rfl, hC3⟩
  have hD3 := hD2.trans (hC3.mono hD2.size)
  clear hC3 hD2 cA2 cB2
  cases few
  · go_wp2
    go_ret
    exact ⟨rfl, HW.out _ hD3⟩
  cases also
  · go_wp2
    go_ret
    exact ⟨rfl, HW.out _ hD3⟩
  by_cases h600 : s.size ≤ 600
  · have h600' : decide ((600 : Int) < (s.size : Int)) = false := decide_eq_false (by omega)
    go_wp2_with fail
    refine (read_any s _ (KW.out _ hD3) (by omega)).mono ?_
    rintro e w4 ⟨A4, n4, c4, b4, rfl, hi4, hC4⟩
    have hC4a : Below w4.heap.size w4 (w4.alloc (.cells #[.slice A4 n4 c4] 24)) := (Below.refl _ w4).alloc (Nat.le_refl _) _
    have hD4 := hD3.trans (hC4.mono hD3.size)
    have hD4a := hD4.trans (hC4a.mono hD4.size)
    have b4' := Blk.new w4 24 [.slice A4 n4 c4]
    obtain ⟨rfl, -, hr4, -⟩ := hi4
    have hr4' : rSch (All w4) w4 [.slice A4 n4 c4] ((readS (byt s)).getD []) := rSch_stays.to (Keeps.mono fun b hb => hb.2) hr4
    have hr4a := sch_below hC4a hr4'
    clear hC4 hC4a hD3 hD4 hr4 hr4'
    go_wp2_with fail
    refine (rread_any s _ (by omega)).mono ?_
    rintro e w5 ⟨A5, n5, c5, b5, rfl, hi5, hC5⟩
    have hC5a : Below w5.heap.size w5 (w5.alloc (.cells #[.slice A5 n5 c5] 24)) := (Below.refl _ w5).alloc (Nat.le_refl _) _
    have hD5 := hD4a.trans (hC5.mono hD4a.size)
    have hD5a := hD5.trans (hC5a.mono hD5.size)
    have b5' := Blk.new w5 24 [.slice A5 n5 c5]
    have b4a : Blk w5 w4.heap.size 24 [.slice A4 n4 c4] := b4'.to hC5
    have b4b := b4a.to hC5a
    have x4 := b4b.cell (j := 0) rfl
    have x5 := b5'.cell (j := 0) rfl
    obtain ⟨rfl, -, hr5, -⟩ := hi5
    have hr5' : rSch (All w5) w5 [.slice A5 n5 c5] ((readS (byt s)).getD []) := rSch_stays.to (Keeps.mono fun b hb => hb.2) hr5
    have S5 := Lib.hid (rssame_any A4 A5 n4 c4 n5 c5 _ _ _ (sch_below hC5a (sch_below hC5 hr4a)) (sch_below hC5a hr5'))
    rw [decide_eq_true rfl] at S5
    have cA5 := cA.out _ hD5a
    have cB5 := cB.out _ hD5a
    clear hC5 hC5a hD4a hD5 hr5 hr5' hr4a b4' b4a b4b b5'
    generalize (readS (byt s)).isSome = is at *
    go_wp2_with fail
    refine S5.out.mono ?_
    rintro e w6 ⟨rfl, hC6⟩
    have hD6 := hD5a.trans (hC6.mono hD5a.size)
    have cA6 := cA.out _ hD6
    have cB6 := cB.out _ hD6
    clear hC6 hD5a cA5 cB5 S5 x4 x5
    go_wp2_with fail
    refine (RMA.out _ hD6).mono ?_
    rintro e w7 ⟨rfl, hC7⟩
    have hD7 := hD6.trans (hC7.mono hD6.size)
    have cA7 := cA.out _ hD7
    have cB7 := cB.out _ hD7
    clear hC7 hD6 cA6 cB6
    go_wp2_with fail
    refine (RSA.out _ hD7).mono ?_
    rintro e w8 ⟨rfl, hC8⟩
    have hD8 := hD7.trans (hC8.mono hD7.size)
    clear hC8 hD7 cA7 cB7
    generalize mayS x = mx at *
    generalize decide (x = y) = dxy at *
    go_wp2
    go_loopw [19] (fun iv w' => ∃ i : Nat, i ≤ x.length ∧ iv = .int .i64 (i : Int) ∧ Below W0.heap.size W0 w') (fun iv _ => x.length - (intOf iv).toNat)
    case atStart => exact ⟨0, by omega, rfl, hD8⟩
    case round =>
      rename World => wr
      obtain ⟨i, hi, rfl, hD⟩ := hrel
      clear hD8
      have cAr := cA.out _ hD
      have cBr := cB.out _ hD
      by_cases hil : i < x.length
      · have hxi : x[i]? = some x[i] := List.getElem?_eq_getElem hil
        obtain ⟨b, off, sx, A2, c2, hA2, hb, p1, p2, e1, -, hfs⟩ := typ_at (RX.out _ hD) hxi
        subst hA2
        have hi1 : (i : Int) < (x.length : Int) := by omega
        have hi0 : (0 : Int) ≤ (i : Int) := by omega
        clear hxi e1
        generalize x[i] = t at *
        have hdr : Below wr.heap.size wr wr.drew := (Below.refl _ wr).drew
        have F1 := Lib.hid (fun W (hW : Below wr.heap.size wr W) => field_any sx A2 t.2.length c2 t.2 n W (flds_below hW hfs))
        have F2 := Lib.hid (fun W (hW : Below wr.heap.size wr W) => rfield_any sx A2 t.2.length c2 t.2 n W (flds_below hW hfs))
        have hgl := fun (W : World) (hW : Below wr.heap.size wr W) => And.intro (cA.out _ (hD.trans (hW.mono hD.size))) (And.intro ((hW.cell (p := ⟨b, off + i * 2, none⟩) hb).trans p1) ((hW.cell (p := ⟨b, off + i * 2 + 1, none⟩) hb).trans p2))
        have HG := Lib.hid hgl
        clear hgl hfs
        generalize fieldS t.2 (byt n) = fv at *
        have hfv : (fv != fv) = false := by simp
        generalize t.2.length = tl at *
        go_wp2
        refine sch_start [(0, true), (1, true), (2, true), (3, true), (4, true), (5, true), (7, true), (8, true), (9, true), (10, true), (11, true), (12, true), (6, false), (13, false), (14, true)]
          (fun W => W.cell? ⟨w.heap.size, 0, none⟩ = some (.slice (some ⟨b, off, none⟩) x.length c) ∧ W.cell? ⟨b, off + i * 2, none⟩ = some (.string sx) ∧ W.cell? ⟨b, off + i * 2 + 1, none⟩ = some (.slice A2 tl c2)) (by kernel_rfl) rfl (by kernel_rfl) (fun _ _ _ _ _ h => h) (HG.out _ hdr) (fun hH => ?_)
        repeat (first | (refine sch_yes (v := ?_) rfl rfl ?_ hH ?_; rotate_left; (focus ((rintro W ⟨hW1, hW2, hW3⟩; go_simp) <;> with_reducible rfl)); simp only [Act.put, List.setIfInBounds_toArray, List.set_cons_zero, List.set_cons_succ]) | (refine sch_no rfl rfl hH ?_; simp only [Act.put, List.setIfInBounds_toArray, List.set_cons_zero, List.set_cons_succ]))
        refine sch_call rfl rfl (fun K hK => ?_)
        go_wp2_with (go_at_call 15; refine (F1.out _ hdr).mono ?_; rintro e v1 ⟨rfl, hE1⟩)
        have hF1 : Below wr.heap.size wr v1 := hdr.trans hE1
        refine hK.out _ _ (HG.out _ hF1) ?_
        clear hK hH
        have hH := HG.out _ hF1
        repeat (first | (refine sch_yes (v := ?_) rfl rfl ?_ hH ?_; rotate_left; (focus ((rintro W ⟨hW1, hW2, hW3⟩; go_simp) <;> with_reducible rfl)); simp only [Act.put, List.setIfInBounds_toArray, List.set_cons_zero, List.set_cons_succ]) | (refine sch_no rfl rfl hH ?_; simp only [Act.put, List.setIfInBounds_toArray, List.set_cons_zero, List.set_cons_succ]))
        refine sch_call rfl rfl (fun K hK => ?_)
        go_wp2_with (go_at_call 16; refine (F2.out _ hF1).mono ?_; rintro e v2 ⟨rfl, hE2⟩)
        have hF2 := hF1.trans (hE2.mono hF1.size)
        refine hK.out _ _ (HG.out _ hF2) ?_
        clear hK hH
        have hH := HG.out _ hF2
        repeat (first | (refine sch_yes (v := ?_) rfl rfl ?_ hH ?_; rotate_left; (focus ((rintro W ⟨hW1, hW2, hW3⟩; go_simp) <;> with_reducible rfl)); simp only [Act.put, List.setIfInBounds_toArray, List.set_cons_zero, List.set_cons_succ]) | (refine sch_no rfl rfl hH ?_; simp only [Act.put, List.setIfInBounds_toArray, List.set_cons_zero, List.set_cons_succ]))
        refine sch_done ?_
        clear hH
        go_wp2
        go_roundw
        case rel => exact ⟨i + 1, by omega, by go_num, hD.trans (hF2.mono hD.size)⟩
        case measure => simp [intOf]; omega
      obtain rfl : i = x.length := by omega
      have hF0 := hD.drew
      have hmm : (mx == mx) = true := by simp
      have hdd : (dxy == dxy) = true := by simp
      have hii : (is == is) = true := by simp
      generalize findS x (byt n) = fv at *
      have hfv : (fv == fv) = true := by simp
      go_wp2
      refine sch_start [(0, true), (1, true), (2, true), (3, true), (4, true), (5, true), (6, true), (7, true), (9, true), (8, false), (10, true), (11, true), (12, true), (13, true), (14, true), (16, true), (15, false), (17, true), (18, true), (19, true), (20, true), (22, true), (21, false), (23, false), (24, true), (25, true), (26, true), (27, true), (28, true), (30, true), (31, true), (29, false), (32, false), (33, true), (34, true), (35, true)]
        (fun W => W.cell? ⟨w.heap.size, 0, none⟩ = some (.slice A x.length c) ∧ W.cell? ⟨w.heap.size + 1, 0, none⟩ = some (.slice B y.length d)) (by kernel_rfl) rfl (by kernel_rfl) (fun _ _ _ _ _ h => h) ⟨cA.out _ hF0, cB.out _ hF0⟩ (fun hH => ?_)
      repeat (first | (refine sch_yes (v := ?_) rfl rfl ?_ hH ?_; rotate_left; (focus ((rintro W ⟨hW1, hW2⟩; go_simp) <;> with_reducible rfl)); simp only [Act.put, List.setIfInBounds_toArray, List.set_cons_zero, List.set_cons_succ]) | (refine sch_no rfl rfl hH ?_; simp only [Act.put, List.setIfInBounds_toArray, List.set_cons_zero, List.set_cons_succ]))
      refine sch_call rfl rfl (fun K hK => ?_)
      go_wp2_with (go_at_call 17; refine (MA.out _ hF0).mono ?_; rintro e v1 ⟨rfl, hE1⟩)
      have hF1 := hF0.trans (hE1.mono hF0.size)
      have hH1 := And.intro (cA.out _ hF1) (cB.out _ hF1)
      refine hK.out _ _ hH1 ?_
      clear hK hH hE1
      have hH := hH1
      repeat (first | (refine sch_yes (v := ?_) rfl rfl ?_ hH ?_; rotate_left; (focus ((rintro W ⟨hW1, hW2⟩; go_simp) <;> with_reducible rfl)); simp only [Act.put, List.setIfInBounds_toArray, List.set_cons_zero, List.set_cons_succ]) | (refine sch_no rfl rfl hH ?_; simp only [Act.put, List.setIfInBounds_toArray, List.set_cons_zero, List.set_cons_succ]))
      refine sch_call rfl rfl (fun K hK => ?_)
      go_wp2_with (go_at_call 18; refine (SA.out _ hF1).mono ?_; rintro e v2 ⟨rfl, hE2⟩)
      have hF2 := hF1.trans (hE2.mono hF1.size)
      have hH2 := And.intro (cA.out _ hF2) (cB.out _ hF2)
      refine hK.out _ _ hH2 ?_
      clear hK hH hE2
      have hH := hH2
      repeat (first | (refine sch_yes (v := ?_) rfl rfl ?_ hH ?_; rotate_left; (focus ((rintro W ⟨hW1, hW2⟩; go_simp) <;> with_reducible rfl)); simp only [Act.put, List.setIfInBounds_toArray, List.set_cons_zero, List.set_cons_succ]) | (refine sch_no rfl rfl hH ?_; simp only [Act.put, List.setIfInBounds_toArray, List.set_cons_zero, List.set_cons_succ]))
      refine sch_call rfl rfl (fun K hK => ?_)
      go_wp2_with (go_at_call 19; refine (XA.out _ hF2).mono ?_; rintro e v3 ⟨q1, rfl, hq1, -, hE3⟩)
      have hF3 := hF2.trans (hE3.mono hF2.size)
      have hH3 := And.intro (cA.out _ hF3) (cB.out _ hF3)
      refine hK.out _ _ hH3 ?_
      clear hK hH hE3
      have hH := hH3
      repeat (first | (refine sch_yes (v := ?_) rfl rfl ?_ hH ?_; rotate_left; (focus ((rintro W ⟨hW1, hW2⟩; go_simp) <;> with_reducible rfl)); simp only [Act.put, List.setIfInBounds_toArray, List.set_cons_zero, List.set_cons_succ]) | (refine sch_no rfl rfl hH ?_; simp only [Act.put, List.setIfInBounds_toArray, List.set_cons_zero, List.set_cons_succ]))
      refine sch_call rfl rfl (fun K hK => ?_)
      go_wp2_with (go_at_call 20; refine (RXA.out _ hF3).mono ?_; rintro e v4 ⟨q2, rfl, hq2, hE4⟩)
      have hF4 := hF3.trans (hE4.mono hF3.size)
      have hH4 := And.intro (cA.out _ hF4) (cB.out _ hF4)
      refine hK.out _ _ hH4 ?_
      clear hK hH hE4
      have hH := hH4
      have hqq : (q1.toList == q2.toList) = true := by rw [str_beq, hq1, hq2]; simp
      clear hq1 hq2
      repeat (first | (refine sch_yes (v := ?_) rfl rfl ?_ hH ?_; rotate_left; (focus ((rintro W ⟨hW1, hW2⟩; go_simp) <;> with_reducible rfl)); simp only [Act.put, List.setIfInBounds_toArray, List.set_cons_zero, List.set_cons_succ]) | (refine sch_no rfl rfl hH ?_; simp only [Act.put, List.setIfInBounds_toArray, List.set_cons_zero, List.set_cons_succ]))
      refine sch_call rfl rfl (fun K hK => ?_)
      go_wp2_with (go_at_call 21; refine (NA.out _ hF4).mono ?_; rintro e v5 ⟨rfl, hE5⟩)
      have hF5 := hF4.trans (hE5.mono hF4.size)
      have hH5 := And.intro (cA.out _ hF5) (cB.out _ hF5)
      refine hK.out _ _ hH5 ?_
      clear hK hH hE5
      have hH := hH5
      repeat (first | (refine sch_yes (v := ?_) rfl rfl ?_ hH ?_; rotate_left; (focus ((rintro W ⟨hW1, hW2⟩; go_simp) <;> with_reducible rfl)); simp only [Act.put, List.setIfInBounds_toArray, List.set_cons_zero, List.set_cons_succ]) | (refine sch_no rfl rfl hH ?_; simp only [Act.put, List.setIfInBounds_toArray, List.set_cons_zero, List.set_cons_succ]))
      refine sch_call rfl rfl (fun K hK => ?_)
      go_wp2_with (go_at_call 22; refine (RNA.out _ hF5).mono ?_; rintro e v6 ⟨rfl, hE6⟩)
      have hF6 := hF5.trans (hE6.mono hF5.size)
      have hH6 := And.intro (cA.out _ hF6) (cB.out _ hF6)
      refine hK.out _ _ hH6 ?_
      clear hK hH hE6
      have hH := hH6
      repeat (first | (refine sch_yes (v := ?_) rfl rfl ?_ hH ?_; rotate_left; (focus ((rintro W ⟨hW1, hW2⟩; go_simp) <;> with_reducible rfl)); simp only [Act.put, List.setIfInBounds_toArray, List.set_cons_zero, List.set_cons_succ]) | (refine sch_no rfl rfl hH ?_; simp only [Act.put, List.setIfInBounds_toArray, List.set_cons_zero, List.set_cons_succ]))
      refine sch_done ?_
      clear hH
      go_wp2
      go_ret
      exact ⟨by simp, HW.out _ hF6⟩
  · have h600' : decide ((600 : Int) < (s.size : Int)) = true := decide_eq_true (by omega)
    go_wp2
    go_ret
    exact ⟨rfl, HW.out _ hD3⟩
end Go.Proofs.YtomndfeifjiljaaDoor
