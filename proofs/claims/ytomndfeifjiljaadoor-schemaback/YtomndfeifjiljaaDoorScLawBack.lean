/- SchemaBack's walk. -/
import Derived.Test.YtomndfeifjiljaaDoorScAwake
import Derived.Test.YtomndfeifjiljaaDoorSched
namespace Go.Proofs.YtomndfeifjiljaaDoor
open Go.RowKit

theorem text_same {a b : Sch} (ha : mayS a = true) (hb : mayS b = true) : decide (textS a = textS b) = decide (a = b) := by
  by_cases h : a = b
  · rw [decide_eq_true h, decide_eq_true (by rw [h])]
  · rw [decide_eq_false h, decide_eq_false fun e => h (textS_inj ha hb e)]

set_option maxRecDepth 100000 in
set_option maxHeartbeats 4000000 in
theorem schemaBack_walk (w : World) (hK : Kt w) (cs : Array Value) (x : Sch) (h : rSch (All w) w cs.toList x) (ds : Array Value) (y : Sch) (h' : rSch (All w) w ds.toList y) (s : ByteArray) (hs : s.size ≤ maxLen) :
    Calls Tryd.prog 4 #[.agg cs, .agg ds, .string s] w fun e w' => e = .returned (.bool true) ∧ Below w.heap.size w w' := by
  obtain ⟨A, c, rfl, hlc, hcm, hx⟩ := sch_arg h
  obtain ⟨B, d, rfl, hld, hdm, hy⟩ := sch_arg h'
  clear h h'
  simp only [maxLen] at hcm hdm hs
  obtain ⟨W0, hW0⟩ : ∃ W0, W0 = (w.alloc (.cells #[.slice A x.length c] 24)).alloc (.cells #[.slice B y.length d] 24) := ⟨_, rfl⟩
  have hB0 : Below w.heap.size w W0 := by rw [hW0]; exact ((Below.refl _ w).alloc (Nat.le_refl _) _).alloc (by simp) _
  have bA0 : Blk W0 w.heap.size 24 [.slice A x.length c] := by rw [hW0]; exact (Blk.new w 24 [.slice A x.length c]).alloc _
  have bB0 : Blk W0 (w.heap.size + 1) 24 [.slice B y.length d] := by
    have := Blk.new (w.alloc (.cells #[.slice A x.length c] 24)) 24 [.slice B y.length d]
    rw [World.size_alloc] at this
    rw [hW0]; exact this
  have cA := Lib.hid (fun W (hW : Below W0.heap.size W0 W) => (bA0.to hW).cell (j := 0) rfl)
  have cB := Lib.hid (fun W (hW : Below W0.heap.size W0 W) => (bB0.to hW).cell (j := 0) rfl)
  have hW : ∀ W, Below W0.heap.size W0 W → Below w.heap.size w W := fun W hW => hB0.trans (hW.mono hB0.size)
  have KW := Lib.hid (fun W (h : Below W0.heap.size W0 W) => hK.below (hW W h))
  have FA := Lib.hid (fun W h => sfew_any A x.length c x 10 W (sch_below (hW W h) hx))
  have FB := Lib.hid (fun W h => sfew_any B y.length d y 10 W (sch_below (hW W h) hy))
  have MA := Lib.hid (fun W h => may_any A x.length c x W (sch_below (hW W h) hx))
  have MB := Lib.hid (fun W h => may_any B y.length d y W (sch_below (hW W h) hy))
  have XA := Lib.hid (fun W h => text_any A x.length c x W (hK.below (hW W h)) (sch_below (hW W h) hx))
  have XB := Lib.hid (fun W h => text_any B y.length d y W (hK.below (hW W h)) (sch_below (hW W h) hy))
  have SA := Lib.hid (fun W h => same_any A B x.length c y.length d x y W (sch_below (hW W h) hx) (sch_below (hW W h) hy))
  have RX := Lib.hid (fun W (h : Below W0.heap.size W0 W) => sch_below (hW W h) hx)
  have HW := Lib.hid hW
  have hrt := readS_text x
  have Hsm := Lib.hid (fun (h1 : mayS x = true) (h2 : mayS y = true) => text_same h1 h2)
  clear hW hK hx hy bA0 bB0 hB0
  generalize fewS x 10 = few at *
  generalize fewS y 10 = also at *
  go_enter Tryd.func4, Tryd.ntmps4
  go_wp2_with fail
  rw [← hW0]
  have hD0 := Below.refl W0.heap.size W0
  refine (sawake_any _ (KW.out _ hD0)).mono ?_
  rintro e w1 ⟨rfl, hD1⟩
  have cA1 := cA.out _ hD1
  have cB1 := cB.out _ hD1
  clear hW0 hD0
  go_wp2_with fail
  refine (FA.out _ hD1).mono ?_
  rintro e w2 ⟨rfl, hC2⟩
  have hD2 := hD1.trans (hC2.mono hD1.size)
  have cA2 := cA.out _ hD2
  have cB2 := cB.out _ hD2
  clear hC2 hD1 cA1 cB1
  go_wp2_with fail
  refine (FB.out _ hD2).mono ?_
  rintro e w3 ⟨rfl, hC3⟩
  have hD3 := hD2.trans (hC3.mono hD2.size)
  have cA3 := cA.out _ hD3
  have cB3 := cB.out _ hD3
  clear hC3 hD2 cA2 cB2
  cases few
  · go_wp2
    go_ret
    exact ⟨rfl, HW.out _ hD3⟩
  cases also
  · go_wp2
    go_ret
    exact ⟨rfl, HW.out _ hD3⟩
  by_cases h600 : s.size ≤ 600
  · have h600' : decide ((600 : Int) < (s.size : Int)) = false := decide_eq_false (by omega)
    go_wp2_with fail
    refine (XA.out _ hD3).mono ?_
    rintro e w4 ⟨r, rfl, hr, hrs, hC4⟩
    have hD4 := hD3.trans (hC4.mono hD3.size)
    clear hC4 hD3 cA3 cB3
    go_wp2_with fail
    refine (read_any r _ (KW.out _ hD4) (by omega)).mono ?_
    rintro e w5 ⟨A5, n5, c5, b5, rfl, hi5, hC5⟩
    rw [hr, hrt] at hi5
    clear hr
    have hD5 := hD4.trans (hC5.mono hD4.size)
    have hC5a : Below w5.heap.size w5 (w5.alloc (.cells #[.slice A5 n5 c5] 24)) := (Below.refl _ w5).alloc (Nat.le_refl _) _
    have hD5a := hD5.trans (hC5a.mono hD5.size)
    have cA5 := cA.out _ hD5a
    have b5 := Blk.new w5 24 [.slice A5 n5 c5]
    generalize hmx : mayS x = mx at *
    generalize mayS y = my at *
    generalize decide (x = y) = dxy at *
    cases mx
    · obtain ⟨rfl, -⟩ := hi5
      clear hC5 hD5 hD4 hrt hmx
      go_wp2_with fail
      refine (MA.out _ hD5a).mono ?_
      rintro e w6 ⟨rfl, hC6⟩
      have hD6 := hD5a.trans (hC6.mono hD5a.size)
      clear hC6 hD5a cA5 b5 hC5a
      go_wp2_with fail
      refine (read_any s _ (KW.out _ hD6) (by omega)).mono ?_
      rintro e w8 ⟨A8, n8, c8, b8, rfl, hi8, hC8⟩
      have hD8 := hD6.trans (hC8.mono hD6.size)
      have hC8a : Below w8.heap.size w8 (w8.alloc (.cells #[.slice A8 n8 c8] 24)) := (Below.refl _ w8).alloc (Nat.le_refl _) _
      have hD8a := hD8.trans (hC8a.mono hD8.size)
      cases hz : readS (byt s) with
      | none =>
        rw [hz] at hi8
        obtain ⟨rfl, -⟩ := hi8
        clear hz hC8 hD8 hC8a
        go_wp2
        refine sch_start [(0, true), (1, false), (2, true), (3, true), (4, true), (5, false), (6, true), (7, true), (8, true), (9, true), (11, true), (14, true), (15, true), (10, false), (12, false), (13, true), (16, false), (17, true), (18, true), (19, true)]
          (fun W => W.cell? ⟨w.heap.size, 0, none⟩ = some (.slice A x.length c) ∧ W.cell? ⟨w.heap.size + 1, 0, none⟩ = some (.slice B y.length d)) (by kernel_rfl) rfl (by kernel_rfl) (fun _ _ _ _ _ h => h) ⟨cA.out _ hD8a.drew, cB.out _ hD8a.drew⟩ (fun hH => ?_)
        repeat (first | (refine sch_yes (v := ?_) rfl rfl ?_ hH ?_; rotate_left; (focus ((rintro W ⟨hW1, hW2⟩; go_simp) <;> with_reducible rfl)); simp only [Act.put, List.setIfInBounds_toArray, List.set_cons_zero, List.set_cons_succ]) | (refine sch_no rfl rfl hH ?_; simp only [Act.put, List.setIfInBounds_toArray, List.set_cons_zero, List.set_cons_succ]))
        refine sch_call rfl rfl (fun K hK => ?_)
        go_wp2_with (go_at_call 17; refine (MA.out _ hD8a.drew).mono ?_; rintro e v1 ⟨rfl, hE1⟩)
        have hF1 := hD8a.trans (((Below.refl _ _).drew.trans hE1).mono hD8a.size)
        have hH1 := And.intro (cA.out _ hF1) (cB.out _ hF1)
        refine hK.out _ _ hH1 ?_
        clear hK hH hE1
        have hH := hH1
        repeat (first | (refine sch_yes (v := ?_) rfl rfl ?_ hH ?_; rotate_left; (focus ((rintro W ⟨hW1, hW2⟩; go_simp) <;> with_reducible rfl)); simp only [Act.put, List.setIfInBounds_toArray, List.set_cons_zero, List.set_cons_succ]) | (refine sch_no rfl rfl hH ?_; simp only [Act.put, List.setIfInBounds_toArray, List.set_cons_zero, List.set_cons_succ]))
        refine sch_call_no rfl rfl hH ?_
        repeat (first | (refine sch_yes (v := ?_) rfl rfl ?_ hH ?_; rotate_left; (focus ((rintro W ⟨hW1, hW2⟩; go_simp) <;> with_reducible rfl)); simp only [Act.put, List.setIfInBounds_toArray, List.set_cons_zero, List.set_cons_succ]) | (refine sch_no rfl rfl hH ?_; simp only [Act.put, List.setIfInBounds_toArray, List.set_cons_zero, List.set_cons_succ]))
        refine sch_call_no rfl rfl hH ?_
        repeat (first | (refine sch_yes (v := ?_) rfl rfl ?_ hH ?_; rotate_left; (focus ((rintro W ⟨hW1, hW2⟩; go_simp) <;> with_reducible rfl)); simp only [Act.put, List.setIfInBounds_toArray, List.set_cons_zero, List.set_cons_succ]) | (refine sch_no rfl rfl hH ?_; simp only [Act.put, List.setIfInBounds_toArray, List.set_cons_zero, List.set_cons_succ]))
        refine sch_call_no rfl rfl hH ?_
        repeat (first | (refine sch_yes (v := ?_) rfl rfl ?_ hH ?_; rotate_left; (focus ((rintro W ⟨hW1, hW2⟩; go_simp) <;> with_reducible rfl)); simp only [Act.put, List.setIfInBounds_toArray, List.set_cons_zero, List.set_cons_succ]) | (refine sch_no rfl rfl hH ?_; simp only [Act.put, List.setIfInBounds_toArray, List.set_cons_zero, List.set_cons_succ]))
        refine sch_call_no rfl rfl hH ?_
        repeat (first | (refine sch_yes (v := ?_) rfl rfl ?_ hH ?_; rotate_left; (focus ((rintro W ⟨hW1, hW2⟩; go_simp) <;> with_reducible rfl)); simp only [Act.put, List.setIfInBounds_toArray, List.set_cons_zero, List.set_cons_succ]) | (refine sch_no rfl rfl hH ?_; simp only [Act.put, List.setIfInBounds_toArray, List.set_cons_zero, List.set_cons_succ]))
        refine sch_done ?_
        clear hH
        go_wp2
        go_ret
        exact ⟨by simp, HW.out _ hF1⟩
      | some z =>
        rw [hz] at hi8
        obtain ⟨rfl, hn8, hr8, -⟩ := hi8
        obtain ⟨hmz, hsz⟩ := (readS_iff _ _).1 hz
        have hr8' : rSch (All w8) w8 [.slice A8 n8 c8] z := rSch_stays.to (Keeps.mono fun b hb => hb.2) hr8
        have b8 := Blk.new w8 24 [.slice A8 n8 c8]
        have T8 := Lib.hid (text_any A8 n8 c8 z _ (KW.out _ hD8a) (sch_below hC8a hr8'))
        have M8 := Lib.hid (fun W (hW : Below (w8.alloc (.cells #[.slice A8 n8 c8] 24)).heap.size (w8.alloc (.cells #[.slice A8 n8 c8] 24)) W) => may_any A8 n8 c8 z W (sch_below (hC8a.trans (hW.mono hC8a.size)) hr8'))
        rw [hmz] at M8
        clear hz hC8 hD8 hn8 hr8 hr8'
        go_wp2_with fail
        refine T8.out.mono ?_
        rintro e w9 ⟨q, rfl, hq, -, hC9⟩
        rw [textS_may hmz, hsz] at hq
        have hqs : (q.toList == s.toList) = true := by rw [str_beq, hq]; simp
        have hD9 := hD8a.trans (hC9.mono hD8a.size)
        have b9 : Blk w9 w8.heap.size 24 [.slice A8 n8 c8] := b8.to hC9
        have c9 := b9.cell (j := 0) rfl
        clear hq hsz hmz T8 b8 hC8a hD8a b9
        go_wp2_with fail
        refine (M8.out _ hC9).mono ?_
        rintro e w10 ⟨rfl, hC10⟩
        have hD10 := hD9.trans (hC10.mono hD9.size)
        clear M8 hC9 hC10 hD9 c9 hqs
        go_wp2
        refine sch_start [(0, true), (1, false), (2, true), (3, true), (4, true), (5, false), (6, true), (7, true), (8, true), (9, true), (11, true), (14, true), (15, true), (10, false), (12, false), (13, true), (16, false), (17, true), (18, true), (19, true)]
          (fun W => W.cell? ⟨w.heap.size, 0, none⟩ = some (.slice A x.length c) ∧ W.cell? ⟨w.heap.size + 1, 0, none⟩ = some (.slice B y.length d)) (by kernel_rfl) rfl (by kernel_rfl) (fun _ _ _ _ _ h => h) ⟨cA.out _ hD10.drew, cB.out _ hD10.drew⟩ (fun hH => ?_)
        repeat (first | (refine sch_yes (v := ?_) rfl rfl ?_ hH ?_; rotate_left; (focus ((rintro W ⟨hW1, hW2⟩; go_simp) <;> with_reducible rfl)); simp only [Act.put, List.setIfInBounds_toArray, List.set_cons_zero, List.set_cons_succ]) | (refine sch_no rfl rfl hH ?_; simp only [Act.put, List.setIfInBounds_toArray, List.set_cons_zero, List.set_cons_succ]))
        refine sch_call rfl rfl (fun K hK => ?_)
        go_wp2_with (go_at_call 17; refine (MA.out _ hD10.drew).mono ?_; rintro e v1 ⟨rfl, hE1⟩)
        have hF1 := hD10.trans (((Below.refl _ _).drew.trans hE1).mono hD10.size)
        have hH1 := And.intro (cA.out _ hF1) (cB.out _ hF1)
        refine hK.out _ _ hH1 ?_
        clear hK hH hE1
        have hH := hH1
        repeat (first | (refine sch_yes (v := ?_) rfl rfl ?_ hH ?_; rotate_left; (focus ((rintro W ⟨hW1, hW2⟩; go_simp) <;> with_reducible rfl)); simp only [Act.put, List.setIfInBounds_toArray, List.set_cons_zero, List.set_cons_succ]) | (refine sch_no rfl rfl hH ?_; simp only [Act.put, List.setIfInBounds_toArray, List.set_cons_zero, List.set_cons_succ]))
        refine sch_call_no rfl rfl hH ?_
        repeat (first | (refine sch_yes (v := ?_) rfl rfl ?_ hH ?_; rotate_left; (focus ((rintro W ⟨hW1, hW2⟩; go_simp) <;> with_reducible rfl)); simp only [Act.put, List.setIfInBounds_toArray, List.set_cons_zero, List.set_cons_succ]) | (refine sch_no rfl rfl hH ?_; simp only [Act.put, List.setIfInBounds_toArray, List.set_cons_zero, List.set_cons_succ]))
        refine sch_call_no rfl rfl hH ?_
        repeat (first | (refine sch_yes (v := ?_) rfl rfl ?_ hH ?_; rotate_left; (focus ((rintro W ⟨hW1, hW2⟩; go_simp) <;> with_reducible rfl)); simp only [Act.put, List.setIfInBounds_toArray, List.set_cons_zero, List.set_cons_succ]) | (refine sch_no rfl rfl hH ?_; simp only [Act.put, List.setIfInBounds_toArray, List.set_cons_zero, List.set_cons_succ]))
        refine sch_call_no rfl rfl hH ?_
        repeat (first | (refine sch_yes (v := ?_) rfl rfl ?_ hH ?_; rotate_left; (focus ((rintro W ⟨hW1, hW2⟩; go_simp) <;> with_reducible rfl)); simp only [Act.put, List.setIfInBounds_toArray, List.set_cons_zero, List.set_cons_succ]) | (refine sch_no rfl rfl hH ?_; simp only [Act.put, List.setIfInBounds_toArray, List.set_cons_zero, List.set_cons_succ]))
        refine sch_call_no rfl rfl hH ?_
        repeat (first | (refine sch_yes (v := ?_) rfl rfl ?_ hH ?_; rotate_left; (focus ((rintro W ⟨hW1, hW2⟩; go_simp) <;> with_reducible rfl)); simp only [Act.put, List.setIfInBounds_toArray, List.set_cons_zero, List.set_cons_succ]) | (refine sch_no rfl rfl hH ?_; simp only [Act.put, List.setIfInBounds_toArray, List.set_cons_zero, List.set_cons_succ]))
        refine sch_done ?_
        clear hH
        go_wp2
        go_ret
        exact ⟨by simp, HW.out _ hF1⟩
    · simp only [if_true] at hi5
      obtain ⟨rfl, hn5, hr5, -⟩ := hi5
      have hn5' : n5 = x.length := hn5
      subst hn5'
      have hr5' : rSch (All w5) w5 [.slice A5 x.length c5] x := rSch_stays.to (Keeps.mono fun b hb => hb.2) hr5
      have S5 := Lib.hid (fun W (hW : Below (w5.alloc (.cells #[.slice A5 x.length c5] 24)).heap.size (w5.alloc (.cells #[.slice A5 x.length c5] 24)) W) hW2 => same_any A5 A x.length c5 x.length c x x W (sch_below (hC5a.trans (hW.mono hC5a.size)) hr5') (RX.out W hW2))
      rw [decide_eq_true rfl] at S5
      clear hC5 hD5 hD4 hrt hr5 hr5' hn5 hmx
      go_wp2_with fail
      refine (MA.out _ hD5a).mono ?_
      rintro e w6 ⟨rfl, hC6⟩
      have hD6 := hD5a.trans (hC6.mono hD5a.size)
      have b6 : Blk w6 w5.heap.size 24 [.slice A5 x.length c5] := b5.to hC6
      have c6 := b6.cell (j := 0) rfl
      have cA6 := cA.out _ hD6
      clear hD5a cA5 b5
      go_wp2_with fail
      refine (S5.out _ hC6 hD6).mono ?_
      rintro e w7 ⟨rfl, hC7⟩
      have hD7 := hD6.trans (hC7.mono hD6.size)
      clear hC6 hC7 hD6 c6 b6 cA6 S5 hC5a
      go_wp2_with fail
      refine (read_any s _ (KW.out _ hD7) (by omega)).mono ?_
      rintro e w8 ⟨A8, n8, c8, b8, rfl, hi8, hC8⟩
      have hD8 := hD7.trans (hC8.mono hD7.size)
      have hC8a : Below w8.heap.size w8 (w8.alloc (.cells #[.slice A8 n8 c8] 24)) := (Below.refl _ w8).alloc (Nat.le_refl _) _
      have hD8a := hD8.trans (hC8a.mono hD8.size)
      cases hz : readS (byt s) with
      | none =>
        rw [hz] at hi8
        obtain ⟨rfl, -⟩ := hi8
        clear hz hC8 hD8 hC8a
        cases my
        · go_wp2
          refine sch_start [(0, true), (1, false), (2, true), (3, true), (4, true), (5, false), (6, true), (7, true), (8, true), (9, true), (11, true), (14, true), (15, true), (10, false), (12, false), (13, true), (16, false), (17, true), (18, true), (19, true)]
            (fun W => W.cell? ⟨w.heap.size, 0, none⟩ = some (.slice A x.length c) ∧ W.cell? ⟨w.heap.size + 1, 0, none⟩ = some (.slice B y.length d)) (by kernel_rfl) rfl (by kernel_rfl) (fun _ _ _ _ _ h => h) ⟨cA.out _ hD8a.drew, cB.out _ hD8a.drew⟩ (fun hH => ?_)
          repeat (first | (refine sch_yes (v := ?_) rfl rfl ?_ hH ?_; rotate_left; (focus ((rintro W ⟨hW1, hW2⟩; go_simp) <;> with_reducible rfl)); simp only [Act.put, List.setIfInBounds_toArray, List.set_cons_zero, List.set_cons_succ]) | (refine sch_no rfl rfl hH ?_; simp only [Act.put, List.setIfInBounds_toArray, List.set_cons_zero, List.set_cons_succ]))
          refine sch_call rfl rfl (fun K hK => ?_)
          go_wp2_with (go_at_call 17; refine (MA.out _ hD8a.drew).mono ?_; rintro e v1 ⟨rfl, hE1⟩)
          have hF1 := hD8a.trans (((Below.refl _ _).drew.trans hE1).mono hD8a.size)
          have hH1 := And.intro (cA.out _ hF1) (cB.out _ hF1)
          refine hK.out _ _ hH1 ?_
          clear hK hH hE1
          have hH := hH1
          repeat (first | (refine sch_yes (v := ?_) rfl rfl ?_ hH ?_; rotate_left; (focus ((rintro W ⟨hW1, hW2⟩; go_simp) <;> with_reducible rfl)); simp only [Act.put, List.setIfInBounds_toArray, List.set_cons_zero, List.set_cons_succ]) | (refine sch_no rfl rfl hH ?_; simp only [Act.put, List.setIfInBounds_toArray, List.set_cons_zero, List.set_cons_succ]))
          refine sch_call rfl rfl (fun K hK => ?_)
          go_wp2_with (go_at_call 17; refine (MB.out _ hF1).mono ?_; rintro e v2 ⟨rfl, hE2⟩)
          have hF2 := hF1.trans (hE2.mono hF1.size)
          have hH2 := And.intro (cA.out _ hF2) (cB.out _ hF2)
          refine hK.out _ _ hH2 ?_
          clear hK hH hE2
          have hH := hH2
          repeat (first | (refine sch_yes (v := ?_) rfl rfl ?_ hH ?_; rotate_left; (focus ((rintro W ⟨hW1, hW2⟩; go_simp) <;> with_reducible rfl)); simp only [Act.put, List.setIfInBounds_toArray, List.set_cons_zero, List.set_cons_succ]) | (refine sch_no rfl rfl hH ?_; simp only [Act.put, List.setIfInBounds_toArray, List.set_cons_zero, List.set_cons_succ]))
          refine sch_call_no rfl rfl hH ?_
          repeat (first | (refine sch_yes (v := ?_) rfl rfl ?_ hH ?_; rotate_left; (focus ((rintro W ⟨hW1, hW2⟩; go_simp) <;> with_reducible rfl)); simp only [Act.put, List.setIfInBounds_toArray, List.set_cons_zero, List.set_cons_succ]) | (refine sch_no rfl rfl hH ?_; simp only [Act.put, List.setIfInBounds_toArray, List.set_cons_zero, List.set_cons_succ]))
          refine sch_call_no rfl rfl hH ?_
          repeat (first | (refine sch_yes (v := ?_) rfl rfl ?_ hH ?_; rotate_left; (focus ((rintro W ⟨hW1, hW2⟩; go_simp) <;> with_reducible rfl)); simp only [Act.put, List.setIfInBounds_toArray, List.set_cons_zero, List.set_cons_succ]) | (refine sch_no rfl rfl hH ?_; simp only [Act.put, List.setIfInBounds_toArray, List.set_cons_zero, List.set_cons_succ]))
          refine sch_call_no rfl rfl hH ?_
          repeat (first | (refine sch_yes (v := ?_) rfl rfl ?_ hH ?_; rotate_left; (focus ((rintro W ⟨hW1, hW2⟩; go_simp) <;> with_reducible rfl)); simp only [Act.put, List.setIfInBounds_toArray, List.set_cons_zero, List.set_cons_succ]) | (refine sch_no rfl rfl hH ?_; simp only [Act.put, List.setIfInBounds_toArray, List.set_cons_zero, List.set_cons_succ]))
          refine sch_done ?_
          clear hH
          go_wp2
          go_ret
          exact ⟨by simp, HW.out _ hF2⟩
        · go_wp2
          refine sch_start [(0, true), (1, false), (2, true), (3, true), (4, true), (5, false), (6, true), (7, true), (8, true), (9, true), (11, true), (14, true), (15, true), (10, false), (12, false), (13, true), (16, false), (17, true), (18, true), (19, true)]
            (fun W => W.cell? ⟨w.heap.size, 0, none⟩ = some (.slice A x.length c) ∧ W.cell? ⟨w.heap.size + 1, 0, none⟩ = some (.slice B y.length d)) (by kernel_rfl) rfl (by kernel_rfl) (fun _ _ _ _ _ h => h) ⟨cA.out _ hD8a.drew, cB.out _ hD8a.drew⟩ (fun hH => ?_)
          repeat (first | (refine sch_yes (v := ?_) rfl rfl ?_ hH ?_; rotate_left; (focus ((rintro W ⟨hW1, hW2⟩; go_simp) <;> with_reducible rfl)); simp only [Act.put, List.setIfInBounds_toArray, List.set_cons_zero, List.set_cons_succ]) | (refine sch_no rfl rfl hH ?_; simp only [Act.put, List.setIfInBounds_toArray, List.set_cons_zero, List.set_cons_succ]))
          refine sch_call rfl rfl (fun K hK => ?_)
          go_wp2_with (go_at_call 17; refine (MA.out _ hD8a.drew).mono ?_; rintro e v1 ⟨rfl, hE1⟩)
          have hF1 := hD8a.trans (((Below.refl _ _).drew.trans hE1).mono hD8a.size)
          have hH1 := And.intro (cA.out _ hF1) (cB.out _ hF1)
          refine hK.out _ _ hH1 ?_
          clear hK hH hE1
          have hH := hH1
          repeat (first | (refine sch_yes (v := ?_) rfl rfl ?_ hH ?_; rotate_left; (focus ((rintro W ⟨hW1, hW2⟩; go_simp) <;> with_reducible rfl)); simp only [Act.put, List.setIfInBounds_toArray, List.set_cons_zero, List.set_cons_succ]) | (refine sch_no rfl rfl hH ?_; simp only [Act.put, List.setIfInBounds_toArray, List.set_cons_zero, List.set_cons_succ]))
          refine sch_call rfl rfl (fun K hK => ?_)
          go_wp2_with (go_at_call 17; refine (MB.out _ hF1).mono ?_; rintro e v2 ⟨rfl, hE2⟩)
          have hF2 := hF1.trans (hE2.mono hF1.size)
          have hH2 := And.intro (cA.out _ hF2) (cB.out _ hF2)
          refine hK.out _ _ hH2 ?_
          clear hK hH hE2
          have hH := hH2
          repeat (first | (refine sch_yes (v := ?_) rfl rfl ?_ hH ?_; rotate_left; (focus ((rintro W ⟨hW1, hW2⟩; go_simp) <;> with_reducible rfl)); simp only [Act.put, List.setIfInBounds_toArray, List.set_cons_zero, List.set_cons_succ]) | (refine sch_no rfl rfl hH ?_; simp only [Act.put, List.setIfInBounds_toArray, List.set_cons_zero, List.set_cons_succ]))
          refine sch_call rfl rfl (fun K hK => ?_)
          go_wp2_with (go_at_call 19; refine (XA.out _ hF2).mono ?_; rintro e v3 ⟨q1, rfl, hq1, -, hE3⟩)
          have hF3 := hF2.trans (hE3.mono hF2.size)
          have hH3 := And.intro (cA.out _ hF3) (cB.out _ hF3)
          refine hK.out _ _ hH3 ?_
          clear hK hH hE3
          have hH := hH3
          repeat (first | (refine sch_yes (v := ?_) rfl rfl ?_ hH ?_; rotate_left; (focus ((rintro W ⟨hW1, hW2⟩; go_simp) <;> with_reducible rfl)); simp only [Act.put, List.setIfInBounds_toArray, List.set_cons_zero, List.set_cons_succ]) | (refine sch_no rfl rfl hH ?_; simp only [Act.put, List.setIfInBounds_toArray, List.set_cons_zero, List.set_cons_succ]))
          refine sch_call rfl rfl (fun K hK => ?_)
          go_wp2_with (go_at_call 19; refine (XB.out _ hF3).mono ?_; rintro e v4 ⟨q2, rfl, hq2, -, hE4⟩)
          have hF4 := hF3.trans (hE4.mono hF3.size)
          have hH4 := And.intro (cA.out _ hF4) (cB.out _ hF4)
          refine hK.out _ _ hH4 ?_
          clear hK hH hE4
          have hH := hH4
          have hqq : (q1.toList == q2.toList) = dxy := by rw [str_beq, hq1, hq2]; exact Hsm.out (by simp) (by simp)
          clear hq1 hq2
          repeat (first | (refine sch_yes (v := ?_) rfl rfl ?_ hH ?_; rotate_left; (focus ((rintro W ⟨hW1, hW2⟩; go_simp) <;> with_reducible rfl)); simp only [Act.put, List.setIfInBounds_toArray, List.set_cons_zero, List.set_cons_succ]) | (refine sch_no rfl rfl hH ?_; simp only [Act.put, List.setIfInBounds_toArray, List.set_cons_zero, List.set_cons_succ]))
          refine sch_call rfl rfl (fun K hK => ?_)
          go_wp2_with (go_at_call 18; refine (SA.out _ hF4).mono ?_; rintro e v5 ⟨rfl, hE5⟩)
          have hF5 := hF4.trans (hE5.mono hF4.size)
          have hH5 := And.intro (cA.out _ hF5) (cB.out _ hF5)
          refine hK.out _ _ hH5 ?_
          clear hK hH hE5
          have hH := hH5
          repeat (first | (refine sch_yes (v := ?_) rfl rfl ?_ hH ?_; rotate_left; (focus ((rintro W ⟨hW1, hW2⟩; go_simp) <;> with_reducible rfl)); simp only [Act.put, List.setIfInBounds_toArray, List.set_cons_zero, List.set_cons_succ]) | (refine sch_no rfl rfl hH ?_; simp only [Act.put, List.setIfInBounds_toArray, List.set_cons_zero, List.set_cons_succ]))
          refine sch_done ?_
          clear hH
          go_wp2
          go_ret
          exact ⟨by simp, HW.out _ hF5⟩
      | some z =>
        rw [hz] at hi8
        obtain ⟨rfl, hn8, hr8, -⟩ := hi8
        obtain ⟨hmz, hsz⟩ := (readS_iff _ _).1 hz
        have hr8' : rSch (All w8) w8 [.slice A8 n8 c8] z := rSch_stays.to (Keeps.mono fun b hb => hb.2) hr8
        have b8 := Blk.new w8 24 [.slice A8 n8 c8]
        have T8 := Lib.hid (text_any A8 n8 c8 z _ (KW.out _ hD8a) (sch_below hC8a hr8'))
        have M8 := Lib.hid (fun W (hW : Below (w8.alloc (.cells #[.slice A8 n8 c8] 24)).heap.size (w8.alloc (.cells #[.slice A8 n8 c8] 24)) W) => may_any A8 n8 c8 z W (sch_below (hC8a.trans (hW.mono hC8a.size)) hr8'))
        rw [hmz] at M8
        clear hz hC8 hD8 hn8 hr8 hr8'
        go_wp2_with fail
        refine T8.out.mono ?_
        rintro e w9 ⟨q, rfl, hq, -, hC9⟩
        rw [textS_may hmz, hsz] at hq
        have hqs : (q.toList == s.toList) = true := by rw [str_beq, hq]; simp
        have hD9 := hD8a.trans (hC9.mono hD8a.size)
        have b9 : Blk w9 w8.heap.size 24 [.slice A8 n8 c8] := b8.to hC9
        have c9 := b9.cell (j := 0) rfl
        clear hq hsz hmz T8 b8 hC8a hD8a b9
        go_wp2_with fail
        refine (M8.out _ hC9).mono ?_
        rintro e w10 ⟨rfl, hC10⟩
        have hD10 := hD9.trans (hC10.mono hD9.size)
        clear M8 hC9 hC10 hD9 c9 hqs
        cases my
        · go_wp2
          refine sch_start [(0, true), (1, false), (2, true), (3, true), (4, true), (5, false), (6, true), (7, true), (8, true), (9, true), (11, true), (14, true), (15, true), (10, false), (12, false), (13, true), (16, false), (17, true), (18, true), (19, true)]
            (fun W => W.cell? ⟨w.heap.size, 0, none⟩ = some (.slice A x.length c) ∧ W.cell? ⟨w.heap.size + 1, 0, none⟩ = some (.slice B y.length d)) (by kernel_rfl) rfl (by kernel_rfl) (fun _ _ _ _ _ h => h) ⟨cA.out _ hD10.drew, cB.out _ hD10.drew⟩ (fun hH => ?_)
          repeat (first | (refine sch_yes (v := ?_) rfl rfl ?_ hH ?_; rotate_left; (focus ((rintro W ⟨hW1, hW2⟩; go_simp) <;> with_reducible rfl)); simp only [Act.put, List.setIfInBounds_toArray, List.set_cons_zero, List.set_cons_succ]) | (refine sch_no rfl rfl hH ?_; simp only [Act.put, List.setIfInBounds_toArray, List.set_cons_zero, List.set_cons_succ]))
          refine sch_call rfl rfl (fun K hK => ?_)
          go_wp2_with (go_at_call 17; refine (MA.out _ hD10.drew).mono ?_; rintro e v1 ⟨rfl, hE1⟩)
          have hF1 := hD10.trans (((Below.refl _ _).drew.trans hE1).mono hD10.size)
          have hH1 := And.intro (cA.out _ hF1) (cB.out _ hF1)
          refine hK.out _ _ hH1 ?_
          clear hK hH hE1
          have hH := hH1
          repeat (first | (refine sch_yes (v := ?_) rfl rfl ?_ hH ?_; rotate_left; (focus ((rintro W ⟨hW1, hW2⟩; go_simp) <;> with_reducible rfl)); simp only [Act.put, List.setIfInBounds_toArray, List.set_cons_zero, List.set_cons_succ]) | (refine sch_no rfl rfl hH ?_; simp only [Act.put, List.setIfInBounds_toArray, List.set_cons_zero, List.set_cons_succ]))
          refine sch_call rfl rfl (fun K hK => ?_)
          go_wp2_with (go_at_call 17; refine (MB.out _ hF1).mono ?_; rintro e v2 ⟨rfl, hE2⟩)
          have hF2 := hF1.trans (hE2.mono hF1.size)
          have hH2 := And.intro (cA.out _ hF2) (cB.out _ hF2)
          refine hK.out _ _ hH2 ?_
          clear hK hH hE2
          have hH := hH2
          repeat (first | (refine sch_yes (v := ?_) rfl rfl ?_ hH ?_; rotate_left; (focus ((rintro W ⟨hW1, hW2⟩; go_simp) <;> with_reducible rfl)); simp only [Act.put, List.setIfInBounds_toArray, List.set_cons_zero, List.set_cons_succ]) | (refine sch_no rfl rfl hH ?_; simp only [Act.put, List.setIfInBounds_toArray, List.set_cons_zero, List.set_cons_succ]))
          refine sch_call_no rfl rfl hH ?_
          repeat (first | (refine sch_yes (v := ?_) rfl rfl ?_ hH ?_; rotate_left; (focus ((rintro W ⟨hW1, hW2⟩; go_simp) <;> with_reducible rfl)); simp only [Act.put, List.setIfInBounds_toArray, List.set_cons_zero, List.set_cons_succ]) | (refine sch_no rfl rfl hH ?_; simp only [Act.put, List.setIfInBounds_toArray, List.set_cons_zero, List.set_cons_succ]))
          refine sch_call_no rfl rfl hH ?_
          repeat (first | (refine sch_yes (v := ?_) rfl rfl ?_ hH ?_; rotate_left; (focus ((rintro W ⟨hW1, hW2⟩; go_simp) <;> with_reducible rfl)); simp only [Act.put, List.setIfInBounds_toArray, List.set_cons_zero, List.set_cons_succ]) | (refine sch_no rfl rfl hH ?_; simp only [Act.put, List.setIfInBounds_toArray, List.set_cons_zero, List.set_cons_succ]))
          refine sch_call_no rfl rfl hH ?_
          repeat (first | (refine sch_yes (v := ?_) rfl rfl ?_ hH ?_; rotate_left; (focus ((rintro W ⟨hW1, hW2⟩; go_simp) <;> with_reducible rfl)); simp only [Act.put, List.setIfInBounds_toArray, List.set_cons_zero, List.set_cons_succ]) | (refine sch_no rfl rfl hH ?_; simp only [Act.put, List.setIfInBounds_toArray, List.set_cons_zero, List.set_cons_succ]))
          refine sch_done ?_
          clear hH
          go_wp2
          go_ret
          exact ⟨by simp, HW.out _ hF2⟩
        · go_wp2
          refine sch_start [(0, true), (1, false), (2, true), (3, true), (4, true), (5, false), (6, true), (7, true), (8, true), (9, true), (11, true), (14, true), (15, true), (10, false), (12, false), (13, true), (16, false), (17, true), (18, true), (19, true)]
            (fun W => W.cell? ⟨w.heap.size, 0, none⟩ = some (.slice A x.length c) ∧ W.cell? ⟨w.heap.size + 1, 0, none⟩ = some (.slice B y.length d)) (by kernel_rfl) rfl (by kernel_rfl) (fun _ _ _ _ _ h => h) ⟨cA.out _ hD10.drew, cB.out _ hD10.drew⟩ (fun hH => ?_)
          repeat (first | (refine sch_yes (v := ?_) rfl rfl ?_ hH ?_; rotate_left; (focus ((rintro W ⟨hW1, hW2⟩; go_simp) <;> with_reducible rfl)); simp only [Act.put, List.setIfInBounds_toArray, List.set_cons_zero, List.set_cons_succ]) | (refine sch_no rfl rfl hH ?_; simp only [Act.put, List.setIfInBounds_toArray, List.set_cons_zero, List.set_cons_succ]))
          refine sch_call rfl rfl (fun K hK => ?_)
          go_wp2_with (go_at_call 17; refine (MA.out _ hD10.drew).mono ?_; rintro e v1 ⟨rfl, hE1⟩)
          have hF1 := hD10.trans (((Below.refl _ _).drew.trans hE1).mono hD10.size)
          have hH1 := And.intro (cA.out _ hF1) (cB.out _ hF1)
          refine hK.out _ _ hH1 ?_
          clear hK hH hE1
          have hH := hH1
          repeat (first | (refine sch_yes (v := ?_) rfl rfl ?_ hH ?_; rotate_left; (focus ((rintro W ⟨hW1, hW2⟩; go_simp) <;> with_reducible rfl)); simp only [Act.put, List.setIfInBounds_toArray, List.set_cons_zero, List.set_cons_succ]) | (refine sch_no rfl rfl hH ?_; simp only [Act.put, List.setIfInBounds_toArray, List.set_cons_zero, List.set_cons_succ]))
          refine sch_call rfl rfl (fun K hK => ?_)
          go_wp2_with (go_at_call 17; refine (MB.out _ hF1).mono ?_; rintro e v2 ⟨rfl, hE2⟩)
          have hF2 := hF1.trans (hE2.mono hF1.size)
          have hH2 := And.intro (cA.out _ hF2) (cB.out _ hF2)
          refine hK.out _ _ hH2 ?_
          clear hK hH hE2
          have hH := hH2
          repeat (first | (refine sch_yes (v := ?_) rfl rfl ?_ hH ?_; rotate_left; (focus ((rintro W ⟨hW1, hW2⟩; go_simp) <;> with_reducible rfl)); simp only [Act.put, List.setIfInBounds_toArray, List.set_cons_zero, List.set_cons_succ]) | (refine sch_no rfl rfl hH ?_; simp only [Act.put, List.setIfInBounds_toArray, List.set_cons_zero, List.set_cons_succ]))
          refine sch_call rfl rfl (fun K hK => ?_)
          go_wp2_with (go_at_call 19; refine (XA.out _ hF2).mono ?_; rintro e v3 ⟨q1, rfl, hq1, -, hE3⟩)
          have hF3 := hF2.trans (hE3.mono hF2.size)
          have hH3 := And.intro (cA.out _ hF3) (cB.out _ hF3)
          refine hK.out _ _ hH3 ?_
          clear hK hH hE3
          have hH := hH3
          repeat (first | (refine sch_yes (v := ?_) rfl rfl ?_ hH ?_; rotate_left; (focus ((rintro W ⟨hW1, hW2⟩; go_simp) <;> with_reducible rfl)); simp only [Act.put, List.setIfInBounds_toArray, List.set_cons_zero, List.set_cons_succ]) | (refine sch_no rfl rfl hH ?_; simp only [Act.put, List.setIfInBounds_toArray, List.set_cons_zero, List.set_cons_succ]))
          refine sch_call rfl rfl (fun K hK => ?_)
          go_wp2_with (go_at_call 19; refine (XB.out _ hF3).mono ?_; rintro e v4 ⟨q2, rfl, hq2, -, hE4⟩)
          have hF4 := hF3.trans (hE4.mono hF3.size)
          have hH4 := And.intro (cA.out _ hF4) (cB.out _ hF4)
          refine hK.out _ _ hH4 ?_
          clear hK hH hE4
          have hH := hH4
          have hqq : (q1.toList == q2.toList) = dxy := by rw [str_beq, hq1, hq2]; exact Hsm.out (by simp) (by simp)
          clear hq1 hq2
          repeat (first | (refine sch_yes (v := ?_) rfl rfl ?_ hH ?_; rotate_left; (focus ((rintro W ⟨hW1, hW2⟩; go_simp) <;> with_reducible rfl)); simp only [Act.put, List.setIfInBounds_toArray, List.set_cons_zero, List.set_cons_succ]) | (refine sch_no rfl rfl hH ?_; simp only [Act.put, List.setIfInBounds_toArray, List.set_cons_zero, List.set_cons_succ]))
          refine sch_call rfl rfl (fun K hK => ?_)
          go_wp2_with (go_at_call 18; refine (SA.out _ hF4).mono ?_; rintro e v5 ⟨rfl, hE5⟩)
          have hF5 := hF4.trans (hE5.mono hF4.size)
          have hH5 := And.intro (cA.out _ hF5) (cB.out _ hF5)
          refine hK.out _ _ hH5 ?_
          clear hK hH hE5
          have hH := hH5
          repeat (first | (refine sch_yes (v := ?_) rfl rfl ?_ hH ?_; rotate_left; (focus ((rintro W ⟨hW1, hW2⟩; go_simp) <;> with_reducible rfl)); simp only [Act.put, List.setIfInBounds_toArray, List.set_cons_zero, List.set_cons_succ]) | (refine sch_no rfl rfl hH ?_; simp only [Act.put, List.setIfInBounds_toArray, List.set_cons_zero, List.set_cons_succ]))
          refine sch_done ?_
          clear hH
          go_wp2
          go_ret
          exact ⟨by simp, HW.out _ hF5⟩
  · have h600' : decide ((600 : Int) < (s.size : Int)) = true := decide_eq_true (by omega)
    go_wp2
    go_ret
    exact ⟨rfl, HW.out _ hD3⟩
end Go.Proofs.YtomndfeifjiljaaDoor
