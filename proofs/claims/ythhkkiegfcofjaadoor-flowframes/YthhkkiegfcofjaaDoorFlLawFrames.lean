/- The law FlowFrames, walked: it returns true at every input. Condition: the variable errors.errorType holds the handle of the type 'error'. -/
import Derived.Test.YthhkkiegfcofjaaDoorFlHeld
import Derived.Test.YthhkkiegfcofjaaDoorFlFramesPlain
namespace Go.Proofs.YthhkkiegfcofjaaDoor
open Go.RowKit

theorem take_cut (fr : List Fra) (i : Nat) : (catL fr).take (cutAt fr i) = catL (fr.take i) := by
  conv => lhs; arg 2; rw [← List.take_append_drop i fr]
  rw [catL_append, cutAt, List.take_left]
theorem drop_cut (fr : List Fra) (i : Nat) : (catL fr).drop (cutAt fr i) = catL (fr.drop i) := by
  conv => lhs; arg 2; rw [← List.take_append_drop i fr]
  rw [catL_append, cutAt, List.drop_left]
theorem mid_cut (fr : List Fra) {i j : Nat} (h : i ≤ j) : ((catL fr).drop (cutAt fr i)).take (cutAt fr j - cutAt fr i) = catL ((fr.drop i).take (j - i)) := by
  rw [drop_cut]
  have e : fr.take j = fr.take i ++ (fr.drop i).take (j - i) := by
    have : j = i + (j - i) := by omega
    conv => lhs; rw [this]
    exact List.take_add
  have hl : cutAt fr j - cutAt fr i = (catL ((fr.drop i).take (j - i))).length := by
    rw [cutAt, cutAt, e, catL_append, List.length_append]; omega
  conv => lhs; arg 2; rw [← List.take_append_drop (j - i) (fr.drop i)]
  rw [catL_append, hl, List.take_left]
theorem cutAt_mono {fr : List Fra} {i : Nat} (h : i < fr.length) : cutAt fr i < cutAt fr (i + 1) := by
  rw [cutAt_succ (List.getElem?_eq_getElem h)]; omega
theorem cutAt_le2 {fr : List Fra} : ∀ {i j : Nat}, i ≤ j → j ≤ fr.length → cutAt fr i ≤ cutAt fr j
  | i, 0, h, _ => by obtain rfl : i = 0 := by omega
                     exact Nat.le_refl _
  | i, j + 1, h, hj => by
    by_cases e : i = j + 1
    · rw [e]; exact Nat.le_refl _
    · exact Nat.le_trans (cutAt_le2 (show i ≤ j by omega) (by omega)) (Nat.le_of_lt (cutAt_mono (by omega)))
/-- The three damaged ones, out of the parts that are put together. -/
theorem frames_all {f : Flo} (hf : OkF f) {i k : Nat} (hik : i < k) (hk : k < f.2.length + 2) :
    let fb := flowB f
    let li := cutAt (framesF f) i
    let l1 := cutAt (framesF f) (i + 1)
    let lk := cutAt (framesF f) k
    let l2 := cutAt (framesF f) (k + 1)
    li < l1 ∧ l1 ≤ lk ∧ lk < l2 ∧ l2 ≤ fb.length ∧
    (getFl (fb.take li ++ fb.drop l1)).2 ≠ 0 ∧ (getFl (fb.take l1 ++ (fb.drop li).take (l1 - li) ++ fb.drop l1)).2 ≠ 0 ∧
    (getFl (fb.take li ++ (fb.drop lk).take (l2 - lk) ++ (fb.drop l1).take (lk - l1) ++ (fb.drop li).take (l1 - li) ++ fb.drop l2)).2 ≠ 0 := by
  intro fb li l1 lk l2
  have hlen := framesF_length f
  have hall := cutAt_all (fr := framesF f)
  have hF : (framesF f)[i]? = some ((framesF f)[i]'(by omega)) := List.getElem?_eq_getElem (by omega)
  have hG : (framesF f)[k]? = some ((framesF f)[k]'(by omega)) := List.getElem?_eq_getElem (by omega)
  have one : ∀ j F, (framesF f)[j]? = some F → ((framesF f).drop j).take (j + 1 - j) = [F] := fun j F h => by
    obtain ⟨h1, h2⟩ := List.getElem?_eq_some_iff.1 h
    rw [List.drop_eq_getElem_cons h1, h2, show j + 1 - j = 1 by omega]; rfl
  refine ⟨cutAt_mono (by omega), cutAt_le2 (by omega) (by omega), cutAt_mono (by omega), ?_, ?_, ?_, ?_⟩
  · show cutAt _ _ ≤ (catL (framesF f)).length
    rw [← hall]; exact cutAt_le2 (by omega) (by omega)
  · show (getFl ((catL (framesF f)).take _ ++ (catL (framesF f)).drop _)).2 ≠ 0
    rw [take_cut, drop_cut, ← catL_append]
    exact frames_lack hf (by omega)
  · show (getFl ((catL (framesF f)).take _ ++ ((catL (framesF f)).drop _).take _ ++ (catL (framesF f)).drop _)).2 ≠ 0
    rw [take_cut, mid_cut _ (by omega), drop_cut, ← catL_append, ← catL_append, one i _ hF]
    have := frames_twice hf (i := i) (by omega)
    rw [List.append_assoc]
    have e : [(framesF f)[i]'(by omega)] ++ (framesF f).drop (i + 1) = (framesF f).drop i := by
      rw [List.drop_eq_getElem_cons (show i < (framesF f).length by omega)]; rfl
    rw [e]
    exact this
  · show (getFl ((catL (framesF f)).take _ ++ ((catL (framesF f)).drop _).take _ ++ ((catL (framesF f)).drop _).take _ ++ ((catL (framesF f)).drop _).take _ ++ (catL (framesF f)).drop _)).2 ≠ 0
    rw [take_cut, mid_cut _ (by omega), mid_cut _ (by omega), mid_cut _ (by omega), drop_cut, ← catL_append, ← catL_append, ← catL_append, ← catL_append, one i _ hF, one k _ hG]
    have := frames_swap hf hF hG hik
    simpa [List.append_assoc] using this

set_option maxRecDepth 100000 in
set_option maxHeartbeats 8000000 in
theorem flowFrames_walk (w : World) (hg : Han w) (cs : Array Value) (f : Flo) (h : rFlo (All w) w cs.toList f) (a : Int) (ha0 : -9223372036854775808 ≤ a) (ha1 : a ≤ 9223372036854775807) (b : Int) (hb0 : -9223372036854775808 ≤ b) (hb1 : b ≤ 9223372036854775807) :
    Calls Tryd.prog 6 #[.agg cs, .int .i64 a, .int .i64 b] w fun e w' => e = .returned (.bool true) ∧ Below w.heap.size w w' := by
  obtain ⟨j0, hj, hz0, hz1, hz2⟩ := info_parts info_u8
  obtain ⟨Af, cf, rfl, hfl, hfm, hfb, hfby, hfp⟩ := flo_arg h
  clear h
  have H0 := Box.new (Below.refl _ w) hg hfp
  have W1 := Lib.hid (awake_any _ H0.han)
  go_enter Tryd.func6, Tryd.ntmps6
  go_wp2_with fail
  refine W1.out.mono ?_
  rintro e w1 ⟨rfl, hB1⟩
  have H1 := H0.below hB1
  clear W1 H0 hB1
  have W2 := Lib.hid (few_any Af f.2.length cf 40 f w1 H1.pts)
  have x0 := H1.c0
  have x1 := H1.c1
  go_wp2_with fail
  refine W2.out.mono ?_
  rintro e w2 ⟨rfl, hB2⟩
  have H2 := H1.below hB2
  clear W2 H1 hB2 x0 x1
  have x0 := H2.c0
  have x1 := H2.c1
  cases hmay : mayB f with
  | false =>
    have P1 := Lib.hid (fput_bad hfb.1 hfb.2 hfby hmay Af f.2.length cf w2 H2.pts)
    go_wp2_with fail
    refine P1.out.mono ?_
    rintro e w3 ⟨rfl, hB3⟩
    have hbel := (H2.below hB3).bel
    cases hfew : fewB f 40
    all_goals
      go_wp2
      go_ret
      exact ⟨rfl, hbel⟩
  | true =>
    have hok : OkF f := ⟨hfb.1, hfb.2, hmay, hfby⟩
    have P1 := Lib.hid (fput_ok hok Af f.2.length cf w2 H2.pts)
    have hlen := flowB_len hok
    have hpby := flowB_byte hok
    have Hok := Lib.hid hok
    clear hok
    go_wp2_with fail
    refine P1.out.mono ?_
    rintro e w3 ⟨B3, cap3, rfl, hc3, hm3, hr3, hB3⟩
    have H3 := H2.below hB3
    clear P1 H2 hB3 x0 x1
    have x0 := H3.c0
    have x1 := H3.c1
    cases hfew : fewB f 40 with
    | false =>
      have hbel := H3.bel
      go_wp2
      go_ret
      exact ⟨rfl, hbel⟩
    | true =>
      have C1 := Lib.hid (fcuts_ok Hok.out B3 _ cap3 w3 rfl hc3 hr3)
      have hfl := framesF_length f
      have hfew40 := Hok.out.few
      have hcl := fun j => cutsL_get (fr := framesF f) (i := j)
      have hmono := fun j => cutAt_mono (fr := framesF f) (i := j)
      have hle2 := fun j => cutAt_le2 (fr := framesF f) (i := j) (j := (framesF f).length)
      have hall : cutAt (framesF f) (framesF f).length = (flowB f).length := cutAt_all
      have hfra := fun i k h1 h2 => frames_all Hok.out (i := i) (k := k) h1 h2
      simp only at hfra
      have Hcl := Lib.hid hcl
      have Hmono := Lib.hid hmono
      have Hle2 := Lib.hid hle2
      have Hall := Lib.hid hall
      have Hfra := Lib.hid hfra
      clear hcl hmono hle2 hall hfra
      generalize flowB f = fb at *
      generalize framesF f = fr at *
      go_wp2_with fail
      refine C1.out.mono ?_
      rintro e w4 ⟨A4, c4, rfl, hc4, hm4, hr4, hB4⟩
      have H4 := H3.below hB4
      have hr34 := hr3.below hB4
      have hbel := H4.bel
      clear C1 H3 hB4 x0 x1 hr3
      have x1 := H4.c1
      simp only [maxLen] at hm4
      have hw1 : IntKind.i64.wrap ((f.2.length : Int) + 3 - 1) = (f.2.length : Int) + 3 - 1 := IntWalk.i64_in _ (by omega)
      have hw2 : IntKind.i64.wrap ((f.2.length : Int) + 3) = (f.2.length : Int) + 3 := IntWalk.i64_in _ (by omega)
      by_cases hin : 0 ≤ a ∧ a < b ∧ b < (f.2.length : Int) + 2
      · obtain ⟨i, rfl⟩ := Int.eq_ofNat_of_zero_le hin.1
        obtain ⟨k, rfl⟩ := Int.eq_ofNat_of_zero_le (show 0 ≤ b by omega)
        have hik : i < k := by omega
        have hk : k < f.2.length + 2 := by omega
        obtain ⟨b4, off4, rfl, hb4, hcx⟩ := hr4.at (k := 0) (by rw [i64s_length, cutsL_length]; omega)
        have hcell : ∀ W, Below w4.heap.size w4 W → ∀ j, j ≤ fr.length → W.cell? ⟨b4, off4 + j, none⟩ = some (.int .i64 (cutAt fr j : Int)) := fun W hW j hj => (hW.cell (p := ⟨b4, off4 + j, none⟩) hb4).trans (hcx j _ (i64s_get (Hcl.out j hj)))
        have Hcell := Lib.hid hcell
        clear hcell hcx hr4 Hcl
        have hd1 : decide ((i : Int) < 0) = false := by simp
        have hd2 : decide ((k : Int) ≤ (i : Int)) = false := by simp; omega
        have hd2' : decide (k ≤ i) = false := by simp; omega
        have hd3 : decide ((f.2.length : Int) + 3 - 1 ≤ (k : Int)) = false := by simp; omega
        go_wp2_with fail
        go_loopw [13] (fun nv wr => ∃ n : Nat, 1 ≤ n ∧ n ≤ f.2.length + 3 ∧ nv = .int .i64 (n : Int) ∧ Below w4.heap.size w4 wr) (fun nv _ => f.2.length + 3 - (intOf nv).toNat)
        case atStart => exact ⟨1, by omega, by omega, rfl, Below.refl _ _⟩
        case round =>
          obtain ⟨n, hn1, hn2, rfl, hc⟩ := hrel
          by_cases hnl : n < f.2.length + 3
          · obtain ⟨m, rfl⟩ : ∃ m, n = m + 1 := ⟨n - 1, by omega⟩
            have g0 := Hcell.out wr.drew hc.drew (m + 1) (by omega)
            have g1 := Hcell.out wr.drew hc.drew m (by omega)
            have hm := Hmono.out m (by omega)
            have hle := Hle2.out (m + 1) (by omega) (Nat.le_refl _)
            rw [Hall.out] at hle
            generalize cutAt fr (m + 1) = cn at *
            generalize cutAt fr m = cm at *
            have e1 : decide ((cn : Int) ≤ (cm : Int)) = false := by simp; omega
            have e1' : decide (cn ≤ cm) = false := by simp; omega
            have e2 : decide ((fb.length : Int) < (cn : Int)) = false := by simp; omega
            have e2' : decide (fb.length < cn) = false := by simp; omega
            have e3 : (m : Int) + 1 < (f.2.length : Int) + 3 := by omega
            have e4 : (0 : Int) ≤ (m : Int) + 1 := by omega
            have e5 : IntKind.i64.wrap (m : Int) = (m : Int) := IntWalk.i64_in _ (by omega)
            have e5' : IntKind.i64.wrap ((m : Int) + 1 - 1) = (m : Int) := by rw [IntWalk.i64_in _ (by omega)]; omega
            have e6 : (0 : Int) ≤ (m : Int) := by omega
            have e7 : (m : Int) < (f.2.length : Int) + 3 := by omega
            have e8 : ((m : Int) + 1).toNat = m + 1 := by omega
            have hcd := hc.drew
            go_wp2_with fail
            refine sch_start [(0, true), (1, true), (2, true), (3, true), (4, true), (5, true), (6, true), (7, true), (8, true), (9, true), (10, true), (11, true), (12, true), (13, true), (14, true), (15, true), (16, true), (17, true), (18, true)]
              (fun W => W = wr.drew) (by kernel_rfl) rfl (by kernel_rfl) (fun _ _ _ _ _ h => h) rfl (fun hH => ?_)
            repeat (first | (refine sch_yes (v := ?_) rfl rfl ?_ hH ?_; rotate_left; (focus ((intro W hW; go_simp) <;> with_reducible rfl)); simp only [Act.put, List.setIfInBounds_toArray, List.set_cons_zero, List.set_cons_succ]) | (refine sch_no rfl rfl hH ?_; simp only [Act.put, List.setIfInBounds_toArray, List.set_cons_zero, List.set_cons_succ]))
            refine sch_done ?_
            go_wp2
            go_roundw
            case rel => exact ⟨m + 1 + 1, by omega, by omega, by go_num, hcd⟩
            case measure => simp [intOf]; omega
          · obtain rfl : n = f.2.length + 3 := by omega
            obtain ⟨q1, q2, q3, q4, n1, n2, n3⟩ := Hfra.out i k hik hk
            have hF0 : ∀ W, Below w4.heap.size w4 W → W.cell? ⟨b4, off4 + i, none⟩ = some (.int .i64 (cutAt fr i : Int)) ∧ W.cell? ⟨b4, off4 + (i + 1), none⟩ = some (.int .i64 (cutAt fr (i + 1) : Int)) ∧ W.cell? ⟨b4, off4 + k, none⟩ = some (.int .i64 (cutAt fr k : Int)) ∧ W.cell? ⟨b4, off4 + (k + 1), none⟩ = some (.int .i64 (cutAt fr (k + 1) : Int)) := fun W hW => ⟨Hcell.out W hW i (by omega), Hcell.out W hW (i + 1) (by omega), Hcell.out W hW k (by omega), Hcell.out W hW (k + 1) (by omega)⟩
            have HF := Lib.hid hF0
            clear hF0 Hcell Hfra Hmono Hle2 Hall
            generalize cutAt fr i = li at *
            generalize cutAt fr (i + 1) = l1 at *
            generalize cutAt fr k = lk at *
            generalize cutAt fr (k + 1) = l2 at *
            obtain ⟨bp, offp, rfl, hbp, _⟩ := hr34.at (k := 0) (by rw [u8s_length]; omega)
            have hR0 : ∀ W, Below w4.heap.size w4 W → Rd W (some ⟨bp, offp, none⟩) (u8s (fb.take li)) ∧ Rd W (some ⟨bp, offp, none⟩) (u8s (fb.take l1)) ∧ Rd W (some ⟨bp, offp + li, none⟩) (u8s ((fb.drop li).take (l1 - li))) ∧ Rd W (some ⟨bp, offp + lk, none⟩) (u8s ((fb.drop lk).take (l2 - lk))) ∧ Rd W (some ⟨bp, offp + l1, none⟩) (u8s (fb.drop l1)) ∧ Rd W (some ⟨bp, offp + l1, none⟩) (u8s ((fb.drop l1).take (lk - l1))) ∧ Rd W (if cap3 = l2 then some ⟨bp, offp, none⟩ else some ⟨bp, offp + l2, none⟩) (u8s (fb.drop l2)) := fun W hW => by
              have hr := hr34.below hW
              refine ⟨by rw [← u8s_take]; exact hr.take _, by rw [← u8s_take]; exact hr.take _, by rw [← u8s_take, ← u8s_drop]; exact (hr.drop _).take _, by rw [← u8s_take, ← u8s_drop]; exact (hr.drop _).take _, by rw [← u8s_drop]; exact hr.drop _, by rw [← u8s_take, ← u8s_drop]; exact (hr.drop _).take _, ?_⟩
              by_cases hce : cap3 = l2
              · rw [List.drop_of_length_le (by omega)]; exact .inl rfl
              · rw [if_neg hce, ← u8s_drop]; exact hr.drop _
            have y0 : (fb.take li).length = li := by rw [List.length_take]; omega
            have y01 : (fb.take l1).length = l1 := by rw [List.length_take]; omega
            have ya : ((fb.drop li).take (l1 - li)).length = l1 - li := by rw [List.length_take, List.length_drop]; omega
            have yb : ((fb.drop lk).take (l2 - lk)).length = l2 - lk := by rw [List.length_take, List.length_drop]; omega
            have y1 : (fb.drop l1).length = fb.length - l1 := by rw [List.length_drop]
            have ym : ((fb.drop l1).take (lk - l1)).length = lk - l1 := by rw [List.length_take, List.length_drop]; omega
            have ye : (fb.drop l2).length = fb.length - l2 := by rw [List.length_drop]
            have z0 : ∀ x ∈ fb.take li, x < 256 := fun x hx => hpby x (List.mem_of_mem_take hx)
            have z01 : ∀ x ∈ fb.take l1, x < 256 := fun x hx => hpby x (List.mem_of_mem_take hx)
            have za : ∀ x ∈ (fb.drop li).take (l1 - li), x < 256 := fun x hx => hpby x (List.mem_of_mem_drop (List.mem_of_mem_take hx))
            have zb : ∀ x ∈ (fb.drop lk).take (l2 - lk), x < 256 := fun x hx => hpby x (List.mem_of_mem_drop (List.mem_of_mem_take hx))
            have z1 : ∀ x ∈ fb.drop l1, x < 256 := fun x hx => hpby x (List.mem_of_mem_drop hx)
            have zm : ∀ x ∈ (fb.drop l1).take (lk - l1), x < 256 := fun x hx => hpby x (List.mem_of_mem_drop (List.mem_of_mem_take hx))
            have ze : ∀ x ∈ fb.drop l2, x < 256 := fun x hx => hpby x (List.mem_of_mem_drop hx)
            have HR := Lib.hid hR0
            clear hR0 hr34
            generalize hAe : (if cap3 = l2 then some (⟨bp, offp, none⟩ : Addr) else some ⟨bp, offp + l2, none⟩) = Ae at HR
            generalize fb.take li = p0 at *
            generalize fb.take l1 = p01 at *
            generalize (fb.drop li).take (l1 - li) = pa at *
            generalize (fb.drop lk).take (l2 - lk) = pb at *
            generalize (fb.drop l1).take (lk - l1) = pm at *
            generalize fb.drop l1 = p1 at *
            generalize fb.drop l2 = pe at *
            have G1 := fun A' c' W h1 h2 h3 => fget_any A' c' (li + (fb.length - l1)) (p0 ++ p1) W (by rw [List.length_append, y0, y1]) h1 (fun x hx => (List.mem_append.1 hx).elim (z0 x) (z1 x)) h2 (by omega) h3
            have G2 := fun A' c' W h1 h2 h3 => fget_any A' c' (l1 + (l1 - li) + (fb.length - l1)) (p01 ++ pa ++ p1) W (by rw [List.length_append, List.length_append, y01, ya, y1]) h1 (fun x hx => (List.mem_append.1 hx).elim (fun hx => (List.mem_append.1 hx).elim (z01 x) (za x)) (z1 x)) h2 (by omega) h3
            have G3 := fun A' c' W h1 h2 h3 => fget_any A' c' (li + (l2 - lk) + (lk - l1) + (l1 - li) + (fb.length - l2)) (p0 ++ pb ++ pm ++ pa ++ pe) W (by rw [List.length_append, List.length_append, List.length_append, List.length_append, y0, yb, ym, ya, ye]) h1 (fun x hx => (List.mem_append.1 hx).elim (fun hx => (List.mem_append.1 hx).elim (fun hx => (List.mem_append.1 hx).elim (fun hx => (List.mem_append.1 hx).elim (z0 x) (zb x)) (zm x)) (za x)) (ze x)) h2 (by omega) h3
            generalize getFl (p0 ++ p1) = r at *
            obtain ⟨r1, E1⟩ := r
            generalize getFl (p01 ++ pa ++ p1) = r at *
            obtain ⟨r2, E2⟩ := r
            generalize getFl (p0 ++ pb ++ pm ++ pa ++ pe) = r at *
            obtain ⟨r3, E3⟩ := r
            simp only at G1 G2 G3 n1 n2 n3
            replace G1 := Lib.hid G1
            replace G2 := Lib.hid G2
            replace G3 := Lib.hid G3
            have o1 : ((E1 : Int) != 0) = true := by rw [bne_iff_ne]; omega
            have o2 : ((E2 : Int) != 0) = true := by rw [bne_iff_ne]; omega
            have o3 : ((E3 : Int) != 0) = true := by rw [bne_iff_ne]; omega
            clear z0 z01 za zb z1 zm ze n1 n2 n3
            have s1 : (0 : Int) ≤ (i : Int) := by omega
            have s2 : (i : Int) < (f.2.length : Int) + 3 := by omega
            have s3 : (0 : Int) ≤ (i : Int) + 1 := by omega
            have s4 : (i : Int) + 1 < (f.2.length : Int) + 3 := by omega
            have s5 : ((i : Int) + 1).toNat = i + 1 := by omega
            have s6 : IntKind.i64.wrap ((i : Int) + 1) = (i : Int) + 1 := IntWalk.i64_in _ (by omega)
            have s7 : (0 : Int) ≤ (k : Int) := by omega
            have s8 : (k : Int) < (f.2.length : Int) + 3 := by omega
            have s9 : (0 : Int) ≤ (k : Int) + 1 := by omega
            have s10 : (k : Int) + 1 < (f.2.length : Int) + 3 := by omega
            have s11 : ((k : Int) + 1).toNat = k + 1 := by omega
            have s12 : IntKind.i64.wrap ((k : Int) + 1) = (k : Int) + 1 := IntWalk.i64_in _ (by omega)
            have m1 : (li : Int) ≤ (l1 : Int) := by omega
            have m2 : (l1 : Int) ≤ (cap3 : Int) := by omega
            have m3 : (li : Int) ≤ (cap3 : Int) := by omega
            have m4 : (lk : Int) ≤ (l2 : Int) := by omega
            have m5 : (l2 : Int) ≤ (cap3 : Int) := by omega
            have m6 : (l1 : Int) ≤ (lk : Int) := by omega
            have m7 : (lk : Int) ≤ (cap3 : Int) := by omega
            have m8 : (l1 : Int) ≤ (fb.length : Int) := by omega
            have m9 : (l2 : Int) ≤ (fb.length : Int) := by omega
            have m10 : (fb.length : Int) ≤ (cap3 : Int) := by omega
            have m11 : ¬ cap3 = li := by omega
            have m12 : ¬ cap3 = l1 := by omega
            have m13 : ¬ cap3 = lk := by omega
            have m14 : (0 : Int) ≤ (li : Int) := by omega
            have m15 : (0 : Int) ≤ (l1 : Int) := by omega
            have m16 : (0 : Int) ≤ (lk : Int) := by omega
            have m17 : (0 : Int) ≤ (l2 : Int) := by omega
            go_wp2_with fail
            refine sch_start [(0, true), (1, true), (2, true), (3, true), (4, true), (5, true), (6, true), (7, true), (8, true), (9, true), (10, true), (11, true)]
              (fun W => Below w4.heap.size w4 W) (by kernel_rfl) rfl (by kernel_rfl) (fun _ _ _ _ _ h => h) hc.drew (fun hH => ?_)
            repeat (first | (refine sch_yes (v := ?_) rfl rfl ?_ hH ?_; rotate_left; (focus ((intro W hW; obtain ⟨u1, u2, u3, u4⟩ := HF.out W hW; go_simp) <;> with_reducible rfl)); simp only [Act.put, List.setIfInBounds_toArray, List.set_cons_zero, List.set_cons_succ]) | (refine sch_no rfl rfl hH ?_; simp only [Act.put, List.setIfInBounds_toArray, List.set_cons_zero, List.set_cons_succ]))
            refine sch_done ?_
            replace hc := hc.drew
            clear hH
            generalize wr.drew = w5 at *
            go_wp2_with fail
            refine sch_start [(0, true), (1, true), (2, true), (3, true), (4, true), (5, true), (6, true), (7, true), (8, true), (9, true), (10, true), (11, true)]
              (fun W => Below w4.heap.size w4 W) (by kernel_rfl) rfl (by kernel_rfl) (fun _ _ _ _ _ h => h) hc.drew (fun hH => ?_)
            repeat (first | (refine sch_yes (v := ?_) rfl rfl ?_ hH ?_; rotate_left; (focus ((intro W hW; obtain ⟨u1, u2, u3, u4⟩ := HF.out W hW; go_simp) <;> with_reducible rfl)); simp only [Act.put, List.setIfInBounds_toArray, List.set_cons_zero, List.set_cons_succ]) | (refine sch_no rfl rfl hH ?_; simp only [Act.put, List.setIfInBounds_toArray, List.set_cons_zero, List.set_cons_succ]))
            refine sch_done ?_
            replace hc := hc.drew
            clear hH
            generalize w5.drew = w6 at *
            go_wp2_with fail
            refine sch_start [(0, true), (1, true), (2, true), (3, true), (4, true), (5, true), (7, true), (8, true), (9, true), (10, true), (11, true), (12, true), (13, true), (6, false), (14, false), (15, true)]
              (fun W => Below w4.heap.size w4 W) (by kernel_rfl) rfl (by kernel_rfl) (fun _ _ _ _ _ h => h) hc.drew (fun hH => ?_)
            replace hc := hc.drew
            generalize w6.drew = w7 at *
            repeat (first | (refine sch_yes (v := ?_) rfl rfl ?_ hH ?_; rotate_left; (focus ((intro W hW; obtain ⟨u1, u2, u3, u4⟩ := HF.out W hW; go_simp) <;> with_reducible rfl)); simp only [Act.put, List.setIfInBounds_toArray, List.set_cons_zero, List.set_cons_succ]) | (refine sch_no rfl rfl hH ?_; simp only [Act.put, List.setIfInBounds_toArray, List.set_cons_zero, List.set_cons_succ]))
            refine sch_call rfl rfl (fun K hK => ?_)
            refine wp_app (.const (.slice none 0 0)) (.tmp 138) 26 rfl w7.heap.size 5 j0 (.int .u8 0) 1 Tryd.underlying26 hj hz0 hz1 hz2 rfl _ (0) ([]) rfl (World.ownsRow_nil _ _ _ _) (some ⟨bp, offp, none⟩) (li) (cap3) (u8s p0) rfl (by rw [u8s_length]; exact y0) ((HR.out _ hc).1) (u8s_one _) (by simp only [maxLen]; omega) (by omega) (Nat.le_refl _) ?_
            intro v8 w8 hown8 hg8 _
            simp only [Nat.zero_add, List.nil_append] at hown8
            have hB8 : Below w7.heap.size w7 w8 := (Below.refl _ w7).grown hg8 (Nat.le_refl _) (fun k hk => by cases hk)
            have hc8 := hc.trans (hB8.mono hc.size)
            refine hK.out _ _ hc8 ?_
            clear hK
            refine sch_call rfl rfl (fun K hK => ?_)
            refine wp_app (.tmp 139) (.tmp 146) 26 rfl w7.heap.size 5 j0 (.int .u8 0) 1 Tryd.underlying26 hj hz0 hz1 hz2 rfl _ (li) (u8s p0) rfl (hown8) (some ⟨bp, offp + l1, none⟩) (fb.length - l1) (cap3 - l1) (u8s p1) rfl (by rw [u8s_length]; exact y1) ((HR.out _ hc8).2.2.2.2.1) (u8s_one _) (by simp only [maxLen]; omega) (by omega) (hB8.size) ?_
            intro v9 w9 hown9 hg9 _
            have hB9 : Below w7.heap.size w7 w9 := hB8.grown hg9 hB8.size (fun k hk => (hown8.lt k hk).1)
            have hc9 := hc.trans (hB9.mono hc.size)
            rw [← u8s_append] at hown9
            obtain ⟨A9, d9, rfl, hd9, hm9, hrl9⟩ := own_in hown9
            refine hK.out _ _ hc9 ?_
            clear hK hH
            have hH := hc9
            repeat (first | (refine sch_yes (v := ?_) rfl rfl ?_ hH ?_; rotate_left; (focus ((intro W hW; obtain ⟨u1, u2, u3, u4⟩ := HF.out W hW; go_simp) <;> with_reducible rfl)); simp only [Act.put, List.setIfInBounds_toArray, List.set_cons_zero, List.set_cons_succ]) | (refine sch_no rfl rfl hH ?_; simp only [Act.put, List.setIfInBounds_toArray, List.set_cons_zero, List.set_cons_succ]))
            refine sch_done ?_
            have RL := Lib.hid (hrl9.keeps (S' := All w9) (Keeps.mono fun x hx => hx.2))
            clear hH hown8 hown9 hg8 hg9 hB8 hB9 hc8 hrl9 hc
            have hc := hc9
            clear hc9
            go_wp2_with fail
            refine sch_start [(0, true), (1, true), (2, true), (3, true), (4, true), (5, true), (6, true), (8, true), (10, true), (11, true), (12, true), (13, true), (14, true), (15, true), (16, true), (7, false), (9, false), (17, false), (18, true)]
              (fun W => Below w9.heap.size w9 W) (by kernel_rfl) rfl (by kernel_rfl) (fun _ _ _ _ _ h => h) (Below.refl _ w9).drew (fun hH => ?_)
            have h10 : Below w9.heap.size w9 w9.drew := (Below.refl _ w9).drew
            generalize w9.drew = w10 at *
            have hF9 := Lib.hid (fun W (hW : Below w9.heap.size w9 W) => HF.out W (hc.trans (hW.mono hc.size)))
            have hc10 := hc.trans (h10.mono hc.size)
            repeat (first | (refine sch_yes (v := ?_) rfl rfl ?_ hH ?_; rotate_left; (focus ((intro W hW; obtain ⟨u1, u2, u3, u4⟩ := hF9.out W hW; go_simp) <;> with_reducible rfl)); simp only [Act.put, List.setIfInBounds_toArray, List.set_cons_zero, List.set_cons_succ]) | (refine sch_no rfl rfl hH ?_; simp only [Act.put, List.setIfInBounds_toArray, List.set_cons_zero, List.set_cons_succ]))
            refine sch_call rfl rfl (fun K hK => ?_)
            refine wp_app (.const (.slice none 0 0)) (.tmp 154) 26 rfl w10.heap.size 5 j0 (.int .u8 0) 1 Tryd.underlying26 hj hz0 hz1 hz2 rfl _ (0) ([]) rfl (World.ownsRow_nil _ _ _ _) (some ⟨bp, offp, none⟩) (l1) (cap3) (u8s p01) rfl (by rw [u8s_length]; exact y01) ((HR.out _ hc10).2.1) (u8s_one _) (by simp only [maxLen]; omega) (by omega) (Nat.le_refl _) ?_
            intro v11 w11 hown11 hg11 _
            simp only [Nat.zero_add, List.nil_append] at hown11
            have hB11 : Below w10.heap.size w10 w11 := (Below.refl _ w10).grown hg11 (Nat.le_refl _) (fun k hk => by cases hk)
            have hc11 := hc10.trans (hB11.mono hc10.size)
            refine hK.out _ _ (h10.trans (hB11.mono h10.size)) ?_
            clear hK
            refine sch_call rfl rfl (fun K hK => ?_)
            refine wp_app (.tmp 155) (.tmp 156) 26 rfl w10.heap.size 5 j0 (.int .u8 0) 1 Tryd.underlying26 hj hz0 hz1 hz2 rfl _ (l1) (u8s p01) rfl (hown11) (some ⟨bp, offp + li, none⟩) (l1 - li) (cap3 - li) (u8s pa) rfl (by rw [u8s_length]; exact ya) ((HR.out _ hc11).2.2.1) (u8s_one _) (by simp only [maxLen]; omega) (by omega) (hB11.size) ?_
            intro v12 w12 hown12 hg12 _
            have hB12 : Below w10.heap.size w10 w12 := hB11.grown hg12 hB11.size (fun k hk => (hown11.lt k hk).1)
            have hc12 := hc10.trans (hB12.mono hc10.size)
            rw [← u8s_append] at hown12
            refine hK.out _ _ (h10.trans (hB12.mono h10.size)) ?_
            clear hK
            refine sch_call rfl rfl (fun K hK => ?_)
            refine wp_app (.tmp 157) (.tmp 164) 26 rfl w10.heap.size 5 j0 (.int .u8 0) 1 Tryd.underlying26 hj hz0 hz1 hz2 rfl _ (l1 + (l1 - li)) (u8s (p01 ++ pa)) rfl (hown12) (some ⟨bp, offp + l1, none⟩) (fb.length - l1) (cap3 - l1) (u8s p1) rfl (by rw [u8s_length]; exact y1) ((HR.out _ hc12).2.2.2.2.1) (u8s_one _) (by simp only [maxLen]; omega) (by omega) (hB12.size) ?_
            intro v13 w13 hown13 hg13 _
            have hB13 : Below w10.heap.size w10 w13 := hB12.grown hg13 hB12.size (fun k hk => (hown12.lt k hk).1)
            rw [← u8s_append] at hown13
            obtain ⟨A13, d13, rfl, hd13, hm13, hrl13⟩ := own_in hown13
            have h13 := h10.trans (hB13.mono h10.size)
            refine hK.out _ _ h13 ?_
            clear hK hH
            have hH := h13
            repeat (first | (refine sch_yes (v := ?_) rfl rfl ?_ hH ?_; rotate_left; (focus ((intro W hW; obtain ⟨u1, u2, u3, u4⟩ := hF9.out W hW; go_simp) <;> with_reducible rfl)); simp only [Act.put, List.setIfInBounds_toArray, List.set_cons_zero, List.set_cons_succ]) | (refine sch_no rfl rfl hH ?_; simp only [Act.put, List.setIfInBounds_toArray, List.set_cons_zero, List.set_cons_succ]))
            refine sch_done ?_
            have RL13 := Lib.hid (RL.out.keeps (Keeps.below h13))
            have RT := Lib.hid (hrl13.keeps (S' := All w13) (Keeps.mono fun x hx => hx.2))
            have hc13 := hc.trans (h13.mono hc.size)
            clear hH hF9 RL hown11 hown12 hown13 hg11 hg12 hg13 hB11 hB12 hB13 hc11 hc12 hrl13 hc h13 h10 hc10
            obtain ⟨u1, u2, u3, u4⟩ := HF.out w13 hc13
            go_wp2_with (first
              | (at_builtin; refine wpList_app rfl (.const (.slice none 0 0)) (.tmp 171) 26 rfl w13.heap.size 5 j0 (.int .u8 0) 1 Tryd.underlying26 hj hz0 hz1 hz2 rfl _ (0) ([]) rfl (World.ownsRow_nil _ _ _ _) (some ⟨bp, offp, none⟩) (li) (cap3) (u8s p0) rfl (by rw [u8s_length]; exact y0) ((HR.out _ hc13).1) (u8s_one _) (by simp only [maxLen]; omega) (by omega) (Nat.le_refl _) ?_; intro v14 w14 hown14 hg14 _; simp only [Nat.zero_add, List.nil_append] at hown14; have hB14 : Below w13.heap.size w13 w14 := (Below.refl _ w13).grown hg14 (Nat.le_refl _) (fun k hk => by cases hk); have hc14 := hc13.trans (hB14.mono hc13.size))
              | (at_builtin; refine wpList_app rfl (.tmp 172) (.tmp 173) 26 rfl w13.heap.size 5 j0 (.int .u8 0) 1 Tryd.underlying26 hj hz0 hz1 hz2 rfl _ (li) (u8s p0) rfl (hown14) (some ⟨bp, offp + lk, none⟩) (l2 - lk) (cap3 - lk) (u8s pb) rfl (by rw [u8s_length]; exact yb) ((HR.out _ hc14).2.2.2.1) (u8s_one _) (by simp only [maxLen]; omega) (by omega) (hB14.size) ?_; intro v15 w15 hown15 hg15 _; have hB15 : Below w13.heap.size w13 w15 := hB14.grown hg15 hB14.size (fun k hk => (hown14.lt k hk).1); rw [← u8s_append] at hown15)
              | fail)
            clear u1 u2 u3 u4
            have hc15 := hc13.trans (hB15.mono hc13.size)
            refine sch_start [(0, true), (1, true), (2, true), (3, true), (4, true), (5, true), (6, true), (7, true), (8, true), (9, true), (10, true), (11, true), (12, false), (13, true)]
              (fun W => Below w4.heap.size w4 W) (by kernel_rfl) rfl (by kernel_rfl) (fun _ _ _ _ _ h => h) hc15.drew (fun hH => ?_)
            have hown16 : w15.drew.ownsRow w13.heap.size 5 1 v15 (li + (l2 - lk)) (u8s (p0 ++ pb)) := hown15
            have hB16 := hB15.drew
            have hc16 := hc15.drew
            generalize w15.drew = w16 at *
            repeat (first | (refine sch_yes (v := ?_) rfl rfl ?_ hH ?_; rotate_left; (focus ((intro W hW; obtain ⟨u1, u2, u3, u4⟩ := HF.out W hW; go_simp) <;> with_reducible rfl)); simp only [Act.put, List.setIfInBounds_toArray, List.set_cons_zero, List.set_cons_succ]) | (refine sch_no rfl rfl hH ?_; simp only [Act.put, List.setIfInBounds_toArray, List.set_cons_zero, List.set_cons_succ]))
            refine sch_call rfl rfl (fun K hK => ?_)
            refine wp_app (.tmp 175) (.tmp 186) 26 rfl w13.heap.size 5 j0 (.int .u8 0) 1 Tryd.underlying26 hj hz0 hz1 hz2 rfl _ (li + (l2 - lk)) (u8s (p0 ++ pb)) rfl (hown16) (some ⟨bp, offp + l1, none⟩) (lk - l1) (cap3 - l1) (u8s pm) rfl (by rw [u8s_length]; exact ym) ((HR.out _ hc16).2.2.2.2.2.1) (u8s_one _) (by simp only [maxLen]; omega) (by omega) (hB16.size) ?_
            intro v17 w17 hown17 hg17 _
            have hB17 : Below w13.heap.size w13 w17 := hB16.grown hg17 hB16.size (fun k hk => (hown16.lt k hk).1)
            have hc17 := hc13.trans (hB17.mono hc13.size)
            rw [← u8s_append] at hown17
            refine hK.out _ _ hc17 ?_
            clear hK hH
            have hH := hc17
            repeat (first | (refine sch_yes (v := ?_) rfl rfl ?_ hH ?_; rotate_left; (focus ((intro W hW; obtain ⟨u1, u2, u3, u4⟩ := HF.out W hW; go_simp) <;> with_reducible rfl)); simp only [Act.put, List.setIfInBounds_toArray, List.set_cons_zero, List.set_cons_succ]) | (refine sch_no rfl rfl hH ?_; simp only [Act.put, List.setIfInBounds_toArray, List.set_cons_zero, List.set_cons_succ]))
            refine sch_done ?_
            clear hH hown14 hown15 hown16 hg14 hg15 hg17 hB14 hB15 hB16 hc14 hc15 hc16
            obtain ⟨u1, u2, u3, u4⟩ := HF.out w17 hc17
            go_wp2_with (first
              | (at_builtin; refine wpList_app rfl (.tmp 188) (.tmp 189) 26 rfl w13.heap.size 5 j0 (.int .u8 0) 1 Tryd.underlying26 hj hz0 hz1 hz2 rfl _ (li + (l2 - lk) + (lk - l1)) (u8s (p0 ++ pb ++ pm)) rfl (hown17) (some ⟨bp, offp + li, none⟩) (l1 - li) (cap3 - li) (u8s pa) rfl (by rw [u8s_length]; exact ya) ((HR.out _ hc17).2.2.1) (u8s_one _) (by simp only [maxLen]; omega) (by omega) (hB17.size) ?_; intro v18 w18 hown18 hg18 _; have hB18 : Below w13.heap.size w13 w18 := hB17.grown hg18 hB17.size (fun k hk => (hown17.lt k hk).1); rw [← u8s_append] at hown18; have hc18 := hc13.trans (hB18.mono hc13.size); obtain ⟨v1, v2, v3, v4⟩ := HF.out w18 hc18)
              | (at_builtin; refine wpList_app rfl (.tmp 191) (.tmp 198) 26 rfl w13.heap.size 5 j0 (.int .u8 0) 1 Tryd.underlying26 hj hz0 hz1 hz2 rfl _ (li + (l2 - lk) + (lk - l1) + (l1 - li)) (u8s (p0 ++ pb ++ pm ++ pa)) rfl (hown18) (Ae) (fb.length - l2) (cap3 - l2) (u8s pe) rfl (by rw [u8s_length]; exact ye) ((HR.out _ hc18).2.2.2.2.2.2) (u8s_one _) (by simp only [maxLen]; omega) (by omega) (hB18.size) ?_; intro v19 w19 hown19 hg19 _; have hB19 : Below w13.heap.size w13 w19 := hB18.grown hg19 hB18.size (fun k hk => (hown18.lt k hk).1); rw [← u8s_append] at hown19; obtain ⟨A19, d19, rfl, hd19, hm19, hrl19⟩ := own_in hown19)
              | fail)
            have hc19 := hc13.trans (hB19.mono hc13.size)
            have H19 := H4.below hc19
            have RL19 := RL13.out.keeps (Keeps.below hB19)
            have RT19 := Lib.hid (RT.out.keeps (Keeps.below hB19))
            have RS19 := Lib.hid (hrl19.keeps (S' := All w19) (Keeps.mono fun x hx => hx.2))
            have X1 := Lib.hid (G1.out A9 d9 w19 hd9 RL19 H19.han)
            clear u1 u2 u3 u4 hown17 hown18 hown19 hg18 hg19 hB17 hB18 hB19 hc17 hc18 RL13 RT RL19 hrl19
            refine X1.out.mono ?_
            rintro e w20 ⟨A20, c20, rfl, _, hB20⟩
            have H20 := (H19.below hB20).alloc (.cells #[.int .u32 r1.1, .slice A20 r1.2.length c20] 25)
            have hB20' := hB20.trans (((Below.refl _ w20).alloc (o := .cells #[.int .u32 r1.1, .slice A20 r1.2.length c20] 25) (Nat.le_refl _)).mono hB20.size)
            have RT20 := RT19.out.keeps (Keeps.below hB20')
            have RS20 := Lib.hid (RS19.out.keeps (Keeps.below hB20'))
            have X2 := Lib.hid (G2.out A13 d13 _ hd13 RT20 H20.han)
            clear X1 RT19 RS19 RT20 hB20
            go_wp2_with fail
            refine X2.out.mono ?_
            rintro e w21 ⟨A21, c21, rfl, _, hB21⟩
            have H21 := (H20.below hB21).alloc (.cells #[.int .u32 r2.1, .slice A21 r2.2.length c21] 25)
            have hB21' := hB21.trans (((Below.refl _ w21).alloc (o := .cells #[.int .u32 r2.1, .slice A21 r2.2.length c21] 25) (Nat.le_refl _)).mono hB21.size)
            have RS21 := RS20.out.keeps (Keeps.below hB21')
            have X3 := Lib.hid (G3.out A19 d19 _ hd19 RS21 H21.han)
            clear X2 RS20 RS21 hB21
            go_wp2_with fail
            refine X3.out.mono ?_
            rintro e w22 ⟨A22, c22, rfl, _, hB22⟩
            have hbel22 := ((H21.below hB22).alloc (.cells #[.int .u32 r3.1, .slice A22 r3.2.length c22] 25)).bel
            go_wp2
            go_ret
            exact ⟨rfl, hbel22⟩
      · have hor : decide (a < 0) = true ∨ (decide (a < 0) = false ∧ decide (b ≤ a) = true) ∨ (decide (a < 0) = false ∧ decide (b ≤ a) = false ∧ decide ((f.2.length : Int) + 3 - 1 ≤ b) = true) := by
          simp only [decide_eq_true_eq, decide_eq_false_iff_not]; omega
        rcases hor with hd1 | ⟨hd1, hd2⟩ | ⟨hd1, hd2, hd3⟩
        all_goals
          go_wp2
          go_ret
          exact ⟨by simp, hbel⟩
end Go.Proofs.YthhkkiegfcofjaaDoor
