/- SchemaParts' walk. -/
import Derived.Test.YtomndfeifjiljaaDoorScAwake
import Derived.Test.YtomndfeifjiljaaDoorScNames
import Derived.Test.YtomndfeifjiljaaDoorSched
namespace Go.Proofs.YtomndfeifjiljaaDoor
open Go.RowKit

/-- The texts of types, each alone, one behind the other. -/
def partsS : Sch → List Nat
  | [] => []
  | t :: s => textS [t] ++ partsS s
theorem partsS_append (a b : Sch) : partsS (a ++ b) = partsS a ++ partsS b := by
  induction a with
  | nil => rfl
  | cons t a ih => rw [List.cons_append, partsS, ih, partsS, List.append_assoc]
theorem partsS_all : ∀ {s : Sch}, s.all (fun t => mayS [t]) = true → partsS s = sText s
  | [], _ => rfl
  | t :: s, h => by
    rw [List.all_cons, Bool.and_eq_true] at h
    rw [partsS, textS_may h.1, partsS_all h.2, sText, sText, List.append_nil, sText]
theorem tText_head {x : Sch} {t : Typ} (h : x[0]? = some t) : t.1.length + 2 ≤ (sText x).length ∧ (sText x).take t.1.length = t.1 := by
  match x, h with
  | u :: s, h =>
    simp at h
    subst h
    rw [sText, tText, List.append_assoc, List.length_append, List.cons_append, List.length_cons, List.append_assoc, List.length_append, List.length_append]
    refine ⟨by simp; omega, by simp⟩

set_option maxRecDepth 100000 in
set_option maxHeartbeats 4000000 in
theorem schemaParts_walk (w : World) (hK : Kt w) (cs : Array Value) (x : Sch) (h : rSch (All w) w cs.toList x) (i : Int) (hi0 : -9223372036854775808 ≤ i) (hi1 : i ≤ 9223372036854775807) :
    Calls Tryd.prog 7 #[.agg cs, .int .i64 i] w fun e w' => e = .returned (.bool true) ∧ Below w.heap.size w w' := by
  obtain ⟨A, c, rfl, hlc, hcm, hx⟩ := sch_arg h
  clear h
  simp only [maxLen] at hcm
  have hB0 : Below w.heap.size w (w.alloc (.cells #[.slice A x.length c] 24)) := (Below.refl _ w).alloc (Nat.le_refl _) _
  have b0 := Blk.new w 24 [.slice A x.length c]
  have TF := Lib.hid (fun W (hW : Below w.heap.size w W) => sfew_any A x.length c x 10 W (sch_below hW hx))
  have TM := Lib.hid (fun W (hW : Below w.heap.size w W) => may_any A x.length c x W (sch_below hW hx))
  have TT := Lib.hid (fun W (hW : Below w.heap.size w W) => text_any A x.length c x W (hK.below hW) (sch_below hW hx))
  have HT := Lib.hid (fun (h : mayS x = true) => textS_may h)
  have HM := Lib.hid (fun (h : mayS x = true) i t => mayS_at h (i := i) (t := t))
  have HS := Lib.hid (fun (h : mayS x = true) => mayS_small h)
  have HN := Lib.hid (fun (h : mayS x = true) => mayS_ne h)
  generalize fewS x 10 = few at *
  generalize mayS x = may at *
  go_enter Tryd.func7, Tryd.ntmps7
  go_wp2_with fail
  refine (sawake_any _ (hK.below hB0)).mono ?_
  rintro e w1 ⟨rfl, hC1⟩
  have hB1 := hB0.trans (hC1.mono hB0.size)
  have b1 : Blk w1 w.heap.size 24 [.slice A x.length c] := b0.to hC1
  have c1 := b1.cell (j := 0) rfl
  clear hC1 hB0 b0
  go_wp2_with fail
  refine (TF.out _ hB1).mono ?_
  rintro e w2 ⟨rfl, hC2⟩
  have hB2 := hB1.trans (hC2.mono hB1.size)
  have b2 := b1.to hC2
  have c2 := b2.cell (j := 0) rfl
  clear hC2 hB1 b1 c1
  cases few
  · go_wp2
    go_ret
    exact ⟨rfl, hB2⟩
  go_wp2_with fail
  refine (TM.out _ hB2).mono ?_
  rintro e w3 ⟨rfl, hC3⟩
  have hB3 := hB2.trans (hC3.mono hB2.size)
  have b3 := b2.to hC3
  clear hC3 hB2 b2 c2
  cases may
  · go_wp2
    go_ret
    exact ⟨rfl, hB3⟩
  have hte := HT.out (by simp)
  have hne := HN.out (by simp)
  obtain ⟨hl4, hsm⟩ := HS.out (by simp)
  have hlen : 0 < x.length := by cases x with | nil => exact absurd rfl hne | cons t s => simp
  have HM2 := Lib.hid (HM.out (by simp))
  have Hte := Lib.hid hte
  clear HT HM HS HN hte hne hsm TF TM
  go_wp2
  go_loopw [7, 8, 9] (fun av bv kv w' => ∃ (k : Nat) (r : ByteArray), k ≤ x.length ∧ kv = .int .i64 (k : Int) ∧ av = .string r ∧ bv = .bool ((x.take k).all (fun t => mayS [t])) ∧ r.size ≤ 1200 * k ∧ Hid (byt r = partsS (x.take k)) ∧ Below w.heap.size w w' ∧ Blk w' w.heap.size 24 [.slice A x.length c]) (fun _ _ kv _ => x.length - (intOf kv).toNat)
  case atStart => exact ⟨0, ⟨#[]⟩, by omega, rfl, rfl, by simp, Nat.le_refl _, Lib.hid rfl, hB3, b3⟩
  case round =>
    rename_i kv wr
    obtain ⟨k, r, hk, rfl, rfl, rfl, hrs, hr, hB, b4⟩ := hrel
    clear hB3 b3
    have c4 := b4.cell (j := 0) rfl
    by_cases hkl : k < x.length
    · have hxk : x[k]? = some x[k] := List.getElem?_eq_getElem hkl
      obtain ⟨b, off, s, A2, c2, rfl, hb, p1, p2, e1, hss, hfs⟩ := typ_at (sch_below hB hx) hxk
      have htk : x.take (k + 1) = x.take k ++ [x[k]] := by rw [List.take_add_one, hxk]; rfl
      have hal : (x.take (k + 1)).all (fun t => mayS [t]) = ((x.take k).all (fun t => mayS [t]) && mayS [x[k]]) := by rw [htk, List.all_append]; simp
      have hpa : partsS (x.take (k + 1)) = partsS (x.take k) ++ textS [x[k]] := by rw [htk, partsS_append, partsS, partsS, List.append_nil]
      have Hal := Lib.hid hal
      have Hpa := Lib.hid hpa
      clear htk hal hpa hxk
      have hk1 : (k : Int) < (x.length : Int) := by omega
      have hk2 : (0 : Int) ≤ (k : Int) := by omega
      generalize x[k] = t at *
      have hB5 : Below wr.heap.size wr ((wr.alloc (.cells #[.string s, .slice A2 t.2.length c2] 34)).alloc (.cells #[.slice (some ⟨wr.heap.size, 0, none⟩) 1 1] 24)) := ((Below.refl _ wr).alloc (Nat.le_refl _) _).alloc (by simp) _
      have d5 := (Blk.new wr 34 [.string s, .slice A2 t.2.length c2]).alloc (.cells #[.slice (some ⟨wr.heap.size, 0, none⟩) 1 1] 24)
      have g5 := Blk.new (wr.alloc (.cells #[.string s, .slice A2 t.2.length c2] 34)) 24 [.slice (some ⟨wr.heap.size, 0, none⟩) 1 1]
      simp only [World.size_alloc] at g5
      have b5 := b4.to hB5
      have hone : rSch (All _) _ [.slice (some ⟨wr.heap.size, 0, none⟩) 1 1] [t] := ⟨_, _, [.string s, .slice A2 t.2.length c2], rfl, Nat.le_refl _, by decide, d5.rd, Chunks.one rfl (rTyp_mk e1 hss (flds_below hB5 hfs))⟩
      have hBw := hB.trans (hB5.mono hB.size)
      have M1 := Lib.hid (may_any _ 1 1 [t] _ hone)
      have X1 := Lib.hid (fun W hW hk => text_any (some ⟨wr.heap.size, 0, none⟩) 1 1 [t] W hk (sch_below hW hone))
      have X2 := Lib.hid (text_any (some ⟨wr.heap.size, 0, none⟩) 1 1 [t] _ (hK.below hBw) hone)
      have gx := g5.cell (j := 0) rfl
      have hg := g5.lt
      clear hB5 d5 hone hB b4 hfs hb e1 hss
      generalize (x.take k).all (fun t => mayS [t]) = al at *
      generalize mayS [t] = m1 at *
      generalize textS [t] = tx at *
      cases al
      · go_wp2_with fail
        refine X2.out.mono ?_
        rintro e w7 ⟨q, rfl, hq, hqs, hC7⟩
        have hB7 := hBw.trans (hC7.mono hBw.size)
        have b7 := b5.to hC7
        go_wp2
        go_roundw
        case rel => exact ⟨k + 1, r ++ q, by omega, by go_num, rfl, by rw [Hal.out]; rfl, by rw [ByteArray.size_append]; omega, Lib.hid (by rw [byt_append, hr.out, hq, Hpa.out]), hB7, b7⟩
        case measure => simp [intOf]; omega
      · go_wp2_with fail
        refine M1.out.mono ?_
        rintro e w6 ⟨rfl, hC6⟩
        have hB6 := hBw.trans (hC6.mono hBw.size)
        have b6 := b5.to hC6
        have g6 : Blk w6 (wr.heap.size + 1) 24 [.slice (some ⟨wr.heap.size, 0, none⟩) 1 1] := g5.to hC6
        have gx6 := g6.cell (j := 0) rfl
        clear b5 hBw
        go_wp2_with fail
        refine (X1.out _ hC6 (hK.below hB6)).mono ?_
        rintro e w7 ⟨q, rfl, hq, hqs, hC7⟩
        have hB7 := hB6.trans (hC7.mono hB6.size)
        have b7 := b6.to hC7
        go_wp2
        go_roundw
        case rel => exact ⟨k + 1, r ++ q, by omega, by go_num, rfl, by rw [Hal.out, Bool.true_and], by rw [ByteArray.size_append]; omega, Lib.hid (by rw [byt_append, hr.out, hq, Hpa.out]), hB7, b7⟩
        case measure => simp [intOf]; omega
    · obtain rfl : k = x.length := by omega
      have hr' := hr.out
      rw [List.take_length] at hr'
      have hal : x.all (fun t => mayS [t]) = true → byt r = sText x := fun h => by rw [hr', partsS_all h]
      have Hal := Lib.hid hal
      clear hal hr hr'
      rw [List.take_length]
      generalize x.all (fun t => mayS [t]) = al at *
      have hx0 : x[0]? = some x[0] := List.getElem?_eq_getElem hlen
      go_wp2_with fail
      refine (TT.out _ hB).mono ?_
      rintro e w5 ⟨q, rfl, hq, hqs, hC5⟩
      rw [Hte.out] at hq
      have hB5 := hB.trans (hC5.mono hB.size)
      have b5 := b4.to hC5
      have c5 := b5.cell (j := 0) rfl
      obtain ⟨b, off, s, A2, c2, rfl, hb, p1, -, e1, -, -⟩ := typ_at (sch_below hB5 hx) hx0
      simp only [Nat.zero_mul, Nat.add_zero] at p1
      obtain ⟨ht1, ht2⟩ := tText_head hx0
      rw [← hq, ← e1, byt_length, byt_length] at ht1
      rw [← hq, ← e1, byt_length] at ht2
      have hl1 : decide ((q.size : Int) < (s.size : Int) + 2) = false := decide_eq_false (by omega)
      have hl2 : decide (q.size < s.size + 2) = false := decide_eq_false (by omega)
      have hl3 : (s.size : Int) ≤ (q.size : Int) := by omega
      have hl4' : (0 : Int) ≤ (s.size : Int) := by omega
      have hl5 : IntKind.i64.wrap ((s.size : Int) + 2) = (s.size : Int) + 2 := IntWalk.i64_in _ (by omega)
      have hl6 : (0 : Int) < (x.length : Int) := by omega
      have hl7 : ((q.extract 0 s.size).toList == s.toList) = true := by rw [str_beq, byt_extract, List.drop_zero, ht2]; simp
      have hal : al = true → (q.toList == r.toList) = true := fun h => by rw [str_beq, hq, Hal.out h]; simp
      clear hB hC5 b4 c4 Hal ht1 ht2 hq e1 hx0 TT
      cases al
      all_goals
        first
        | (have hq0 := hal rfl; clear hal)
        | clear hal
        go_wp2
        go_quiet (fail)
        have hD6 : Below w5.heap.size w5 (w5.drewN nq) := below_drewN (Below.refl _ _) nq
        have hB6 := hB5.trans (hD6.mono hB5.size)
        have b6 := b5.to hD6
        have c6 := b6.cell (j := 0) rfl
        have hg6 := b6.lt
        have hx6 := sch_below hB6 hx
        clear hD6 hB5 b5 c5 hb p1 hl1 hl2 hl3 hl4' hl5 hl7
        generalize w5.drewN nq = w6 at *
        rcases int_cases i x.length with hi | hi | ⟨I, rfl, hI⟩
        · have hi' : decide (i < 0) = true := decide_eq_true hi
          go_wp2
          refine sch_start [(0, true), (1, true), (2, true), (3, true), (4, true), (5, true), (6, true), (7, true), (8, true), (9, true), (10, true), (11, true), (12, true), (13, true), (14, true), (15, true), (16, true), (18, true), (17, false), (19, true), (20, true), (21, true)]
            (fun W => W.cell? ⟨w.heap.size, 0, none⟩ = some (.slice (some ⟨b, off, none⟩) x.length c)) (by kernel_rfl) rfl (by kernel_rfl) (fun _ _ _ _ _ h => h) c6 (fun hH => ?_)
          repeat (first | (refine sch_yes (v := ?_) rfl rfl ?_ hH ?_; rotate_left; (focus ((intro W hW; go_simp) <;> with_reducible rfl)); simp only [Act.put, List.setIfInBounds_toArray, List.set_cons_zero, List.set_cons_succ]) | (refine sch_no rfl rfl hH ?_; simp only [Act.put, List.setIfInBounds_toArray, List.set_cons_zero, List.set_cons_succ]))
          refine sch_call_no rfl rfl hH ?_
          repeat (first | (refine sch_yes (v := ?_) rfl rfl ?_ hH ?_; rotate_left; (focus ((intro W hW; go_simp) <;> with_reducible rfl)); simp only [Act.put, List.setIfInBounds_toArray, List.set_cons_zero, List.set_cons_succ]) | (refine sch_no rfl rfl hH ?_; simp only [Act.put, List.setIfInBounds_toArray, List.set_cons_zero, List.set_cons_succ]))
          refine sch_done ?_
          clear hH
          go_wp2
          go_ret
          exact ⟨rfl, hB6.drew⟩
        · have hi' : decide (i < 0) = false := decide_eq_false (by omega)
          have hi2 : decide ((x.length : Int) ≤ i) = true := decide_eq_true hi
          go_wp2
          refine sch_start [(0, true), (1, true), (2, true), (3, true), (4, true), (5, true), (6, true), (7, true), (8, true), (9, true), (10, true), (11, true), (12, true), (13, true), (14, true), (15, true), (16, true), (18, true), (17, false), (19, true), (20, true), (21, true)]
            (fun W => W.cell? ⟨w.heap.size, 0, none⟩ = some (.slice (some ⟨b, off, none⟩) x.length c)) (by kernel_rfl) rfl (by kernel_rfl) (fun _ _ _ _ _ h => h) c6 (fun hH => ?_)
          repeat (first | (refine sch_yes (v := ?_) rfl rfl ?_ hH ?_; rotate_left; (focus ((intro W hW; go_simp) <;> with_reducible rfl)); simp only [Act.put, List.setIfInBounds_toArray, List.set_cons_zero, List.set_cons_succ]) | (refine sch_no rfl rfl hH ?_; simp only [Act.put, List.setIfInBounds_toArray, List.set_cons_zero, List.set_cons_succ]))
          refine sch_call_no rfl rfl hH ?_
          repeat (first | (refine sch_yes (v := ?_) rfl rfl ?_ hH ?_; rotate_left; (focus ((intro W hW; go_simp) <;> with_reducible rfl)); simp only [Act.put, List.setIfInBounds_toArray, List.set_cons_zero, List.set_cons_succ]) | (refine sch_no rfl rfl hH ?_; simp only [Act.put, List.setIfInBounds_toArray, List.set_cons_zero, List.set_cons_succ]))
          refine sch_done ?_
          clear hH
          go_wp2
          go_ret
          exact ⟨rfl, hB6.drew⟩
        · have hi1' : decide ((I : Int) < 0) = false := decide_eq_false (by omega)
          have hi2 : decide ((x.length : Int) ≤ (I : Int)) = false := decide_eq_false (by omega)
          have hi5 : decide (x.length ≤ I) = false := decide_eq_false (by omega)
          have hi3 : (I : Int) < (x.length : Int) := by omega
          have hi4 : (0 : Int) ≤ (I : Int) := by omega
          have hxi : x[I]? = some x[I] := List.getElem?_eq_getElem hI
          obtain ⟨b', off', sf, A3, c3, hA3, hb', g1, -, ge, -, -⟩ := typ_at hx6 hxi
          injection hA3 with hA3
          injection hA3 with hA4 hA5
          subst hA4 hA5
          have hfi := (HM2.out I x[I] hxi).1
          have TJ := Lib.hid (fun W (hW : Below w.heap.size w W) => find_any (some ⟨b, off, none⟩) x.length c x sf W (sch_below hW hx))
          rw [ge, hfi] at TJ
          clear hxi ge hfi
          go_wp2
          refine sch_start [(0, true), (1, true), (2, true), (3, true), (4, true), (5, true), (6, true), (7, true), (8, true), (9, true), (10, true), (11, true), (12, true), (13, true), (14, true), (15, true), (16, true), (18, true), (17, false), (19, true), (20, true), (21, true)]
            (fun W => W.cell? ⟨w.heap.size, 0, none⟩ = some (.slice (some ⟨b, off, none⟩) x.length c) ∧ W.cell? ⟨b, off + I * 2, none⟩ = some (.string sf)) (by kernel_rfl) rfl (by kernel_rfl) (fun _ _ _ _ _ h => h) ⟨c6, g1⟩ (fun hH => ?_)
          repeat (first | (refine sch_yes (v := ?_) rfl rfl ?_ hH ?_; rotate_left; (focus ((rintro W ⟨hW1, hW2⟩; go_simp) <;> with_reducible rfl)); simp only [Act.put, List.setIfInBounds_toArray, List.set_cons_zero, List.set_cons_succ]) | (refine sch_no rfl rfl hH ?_; simp only [Act.put, List.setIfInBounds_toArray, List.set_cons_zero, List.set_cons_succ]))
          refine sch_call rfl rfl (fun K hK => ?_)
          go_wp2_with (go_at_call 21; refine (TJ.out _ hB6.drew).mono ?_; rintro e w8 ⟨rfl, hC8⟩)
          have hC8' : Below w6.heap.size w6 w8 := (Below.refl w6.heap.size w6).drew.trans hC8
          have hH8 := And.intro ((hC8'.cell (p := ⟨w.heap.size, 0, none⟩) hg6).trans c6) ((hC8'.cell (p := ⟨b, off + I * 2, none⟩) hb').trans g1)
          refine hK.out _ _ hH8 ?_
          clear hK hH
          have hH := hH8
          repeat (first | (refine sch_yes (v := ?_) rfl rfl ?_ hH ?_; rotate_left; (focus ((rintro W ⟨hW1, hW2⟩; go_simp) <;> with_reducible rfl)); simp only [Act.put, List.setIfInBounds_toArray, List.set_cons_zero, List.set_cons_succ]) | (refine sch_no rfl rfl hH ?_; simp only [Act.put, List.setIfInBounds_toArray, List.set_cons_zero, List.set_cons_succ]))
          refine sch_done ?_
          clear hH hH8
          go_wp2
          go_ret
          exact ⟨by simp, hB6.trans (hC8'.mono hB6.size)⟩
end Go.Proofs.YtomndfeifjiljaaDoor
