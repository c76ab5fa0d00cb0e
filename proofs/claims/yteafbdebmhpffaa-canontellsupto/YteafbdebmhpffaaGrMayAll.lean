/- The texts GrEach, GrMayO, GrMay in one; what each proves, and its conditions, stands before it. -/
import Derived.Test.YteafbdebmhpffaaGrHave
/- The contracts of what mayObj asks of each field, and of slices.EqualFunc with it. Nothing that was there is changed. No condition. -/
namespace Go.Proofs.Yteafbdebmhpffaa
open Go.RowKit

set_option maxRecDepth 100000 in
theorem have1_any (A B C : Option Addr) (N c M d K e : Nat) (g : Gr) (x y s : ByteArray) (f : Fld) (v : Vl) (G : Nat) (w : World) (hG : Blk w G 28 [.slice A N c, .slice B M d, .slice C K e]) (h : rGr (All w) w [.slice A N c, .slice B M d, .slice C K e] g) (hy : byt y = f.2.2) (hs : byt s = v.2.1) :
    Calls Try.prog 89 #[.agg #[.string x, .int .i64 f.2.1, .string y], .agg #[.int .i64 v.1, .string s, .int .i64 v.2.2], .pointer (some ⟨G, 0, none⟩)] w fun e w' => e = .returned (.bool (haveG g f v)) ∧ Below w.heap.size w w' := by
  have hB : ∀ u v, Below w.heap.size w ((w.alloc (.cells u 48)).alloc (.cells v 42)) := fun u v => ((Below.refl _ w).alloc (Nat.le_refl _) _).alloc (by simp) _
  have T1 := Lib.hid (fun W (hW : Below w.heap.size w W) => mayHave_any A B C N c M d K e g x y s f v W (gr_below hW h) hy hs)
  have c0 : ∀ u v, ((w.alloc (.cells u 48)).alloc (.cells v 42)).cell? ⟨G, 0, none⟩ = some (.slice A N c) := fun u v => ((hB u v).cell (p := ⟨G, 0, none⟩) hG.lt).trans (hG.cell (j := 0) rfl)
  have c1 : ∀ u v, ((w.alloc (.cells u 48)).alloc (.cells v 42)).cell? ⟨G, 1, none⟩ = some (.slice B M d) := fun u v => ((hB u v).cell (p := ⟨G, 1, none⟩) hG.lt).trans (hG.cell (j := 1) rfl)
  have c2 : ∀ u v, ((w.alloc (.cells u 48)).alloc (.cells v 42)).cell? ⟨G, 2, none⟩ = some (.slice C K e) := fun u v => ((hB u v).cell (p := ⟨G, 2, none⟩) hG.lt).trans (hG.cell (j := 2) rfl)
  clear h
  generalize haveG g f v = r at *
  generalize f.2.1 = k at *
  generalize v.1 = n1 at *
  generalize v.2.2 = n2 at *
  go_enter Try.func89, Try.ntmps89
  go_wp2_with fail
  refine (T1.out _ (hB _ _)).mono ?_
  rintro e w1 ⟨rfl, hB1⟩
  go_wp2
  go_ret
  exact ⟨rfl, (hB _ _).trans (hB1.mono (hB _ _).size)⟩

set_option maxRecDepth 100000 in
set_option maxHeartbeats 2000000 in
theorem equalFV_any (A B C : Option Addr) (N c M d K e : Nat) (g : Gr) (A2 A3 : Option Addr) (n c2 m c3 : Nat) (fs : List Fld) (vs : List Vl) (G : Nat) (w : World) (hG : Blk w G 28 [.slice A N c, .slice B M d, .slice C K e]) (h : rGr (All w) w [.slice A N c, .slice B M d, .slice C K e] g) (h1 : rFlds (All w) w [.slice A2 n c2] fs) (h2 : rVals (All w) w [.slice A3 m c3] vs) :
    Calls Try.prog 88 #[.slice A2 n c2, .slice A3 m c3, .func (.func 89) #[] #[.pointer (some ⟨G, 0, none⟩)]] w fun e w' => e = .returned (.bool (all2 (haveG g) fs vs)) ∧ Below w.heap.size w w' := by
  obtain ⟨hn, hnc, hcm⟩ := slice_len h1
  obtain ⟨hm, hmd, hdm⟩ := slice_len h2
  simp only [maxLen] at hcm hdm
  by_cases hnm : n = m
  · subst hnm
    have hnn : ((n : Int) != (n : Int)) = false := by simp
    have H0 : Hid (all2 (haveG g) fs vs = all2 (haveG g) (fs.drop 0) (vs.drop 0)) := Lib.hid (by rw [List.drop_zero, List.drop_zero])
    generalize all2 (haveG g) fs vs = r at *
    go_enter Try.func88, Try.ntmps88
    go_wp2
    go_loopw [17] (fun iv w' => ∃ i : Nat, i ≤ n ∧ iv = .int .i64 (i : Int) ∧ Below w.heap.size w w' ∧ Hid (r = all2 (haveG g) (fs.drop i) (vs.drop i))) (fun iv _ => n - (intOf iv).toNat)
    case atStart => exact ⟨0, by omega, rfl, Below.refl _ _, H0⟩
    case round =>
      rename_i iv wr
      obtain ⟨i, hi, rfl, hB, hr⟩ := hrel
      clear H0
      by_cases hin : i < n
      · have hl1 : fs[i]? = some fs[i] := List.getElem?_eq_getElem (by omega)
        have hl2 : vs[i]? = some vs[i] := List.getElem?_eq_getElem (by omega)
        obtain ⟨b1, off1, x1, y1, rfl, hb1, p1, p2, p3, e1, e2, _, _, _⟩ := fld_at (flds_below hB h1) hl1
        obtain ⟨b2, off2, s2, rfl, hb2, q1, q2, q3, f1, _, _, _⟩ := val_at (vals_below hB h2) hl2
        have hil : (i : Int) < (n : Int) := by omega
        have hi0 : (0 : Int) ≤ (i : Int) := by omega
        have hr' := hr.out
        rw [all2_at hl1 hl2] at hr'
        have Hr := Lib.hid hr'
        have HB := Lib.hid hB
        have hB1 : ∀ u v, Below wr.heap.size wr ((wr.alloc (.cells u 48)).alloc (.cells v 42)) := fun u v => ((Below.refl _ wr).alloc (Nat.le_refl _) _).alloc (by simp) _
        have T1 := Lib.hid (fun W (hW : Below w.heap.size w W) => have1_any A B C N c M d K e g x1 y1 s2 fs[i] vs[i] G W (hG.below hG.lt hW) (gr_below hW h) e2 f1)
        have q1' : ∀ u, (wr.alloc (.cells u 48)).cell? ⟨b2, off2 + i * 3, none⟩ = some (.int .i64 vs[i].1) := fun u => (((Below.refl _ wr).alloc (Nat.le_refl _) (.cells u 48)).cell (p := ⟨b2, off2 + i * 3, none⟩) hb2).trans q1
        have q2' : ∀ u, (wr.alloc (.cells u 48)).cell? ⟨b2, off2 + i * 3 + 1, none⟩ = some (.string s2) := fun u => (((Below.refl _ wr).alloc (Nat.le_refl _) (.cells u 48)).cell (p := ⟨b2, off2 + i * 3 + 1, none⟩) hb2).trans q2
        have q3' : ∀ u, (wr.alloc (.cells u 48)).cell? ⟨b2, off2 + i * 3 + 2, none⟩ = some (.int .i64 vs[i].2.2) := fun u => (((Below.refl _ wr).alloc (Nat.le_refl _) (.cells u 48)).cell (p := ⟨b2, off2 + i * 3 + 2, none⟩) hb2).trans q3
        clear hr hr' hl1 hl2 h1 h2 hB e1 e2 f1 h hG q1 q2 q3
        generalize haveG g fs[i] vs[i] = m1 at *
        generalize fs[i].2.1 = k1 at *
        generalize vs[i].1 = k2 at *
        generalize vs[i].2.2 = k3 at *
        cases m1
        · go_wp2_with (first | (go_at_call 89; refine (T1.out _ (HB.out.trans ((hB1 _ _).mono HB.out.size))).mono ?_; rintro e w1 ⟨rfl, hB2⟩) | fail)
          go_ret
          exact ⟨by rw [Hr.out]; rfl, HB.out.trans (((hB1 _ _).trans (hB2.mono (hB1 _ _).size)).mono HB.out.size)⟩
        · rw [Bool.true_and] at Hr
          go_wp2_with (first | (go_at_call 89; refine (T1.out _ (HB.out.trans ((hB1 _ _).mono HB.out.size))).mono ?_; rintro e w1 ⟨rfl, hB2⟩) | fail)
          go_roundw
          case rel => exact ⟨i + 1, by omega, by go_num, HB.out.trans (((hB1 _ _).trans (hB2.mono (hB1 _ _).size)).mono HB.out.size), Hr⟩
          case measure => simp [intOf]; omega
      · obtain rfl : i = n := by omega
        have hr' := hr.out
        rw [all2_end (by omega) (by omega)] at hr'
        clear hr
        go_wp2
        go_ret
        exact ⟨by rw [hr']; rfl, hB⟩
  · have hd : all2 (haveG g) fs vs = false := all2_ne (by omega)
    have hne : ((n : Int) != (m : Int)) = true := by rw [bne_iff_ne]; omega
    rw [hd]
    go_enter Try.func88, Try.ntmps88
    go_wp2
    go_ret
    exact ⟨rfl, Below.refl _ _⟩

end Go.Proofs.Yteafbdebmhpffaa

/- The contract of graph's mayObj. Nothing that was there is changed. No condition. -/
namespace Go.Proofs.Yteafbdebmhpffaa
open Go.RowKit

set_option maxRecDepth 100000 in
set_option maxHeartbeats 2000000 in
theorem mayObj_any (A B C : Option Addr) (N c M d K e : Nat) (g : Gr) (o : Ob) (A2 : Option Addr) (c2 : Nat) (w : World) (h : rGr (All w) w [.slice A N c, .slice B M d, .slice C K e] g) (hv : rVals (All w) w [.slice A2 o.2.2.length c2] o.2.2) :
    Calls Try.prog 64 #[.agg #[.slice A N c, .slice B M d, .slice C K e], .agg #[.int .i64 o.1, .int .i64 o.2.1, .slice A2 o.2.2.length c2]] w fun e w' => e = .returned (.bool (mayO g o)) ∧ Below w.heap.size w w' := by
  have hB0 : Below w.heap.size w ((w.alloc (.cells #[.slice A N c, .slice B M d, .slice C K e] 28)).alloc (.cells #[.int .i64 o.1, .int .i64 o.2.1, .slice A2 o.2.2.length c2] 38)) := ((Below.refl _ w).alloc (Nat.le_refl _) _).alloc (by simp) _
  obtain ⟨p1, p2⟩ := blk_two w 28 38 [.slice A N c, .slice B M d, .slice C K e] [.int .i64 o.1, .int .i64 o.2.1, .slice A2 o.2.2.length c2]
  obtain ⟨hN, hNc, hcm⟩ := slice_len (rGr_open h).1
  simp only [maxLen] at hcm
  have T1 := Lib.hid (fun W => isPlace_any o.2.1 (N : Int) W)
  have Hv : Hid (mayO g o = ((decide (0 ≤ o.2.1) && decide (o.2.1 < (g.1.length : Int))) && all2 (haveG g) (fldsG g.1 o.2.1) o.2.2)) := Lib.hid rfl
  rw [hN] at Hv
  have l1 := p1.lt
  have l2 := p2.lt
  by_cases hp : (decide (0 ≤ o.2.1) && decide (o.2.1 < (N : Int))) = true
  · obtain ⟨t, ht⟩ : ∃ t : Nat, o.2.1 = (t : Int) := ⟨o.2.1.toNat, by simp at hp; omega⟩
    have htN : t < N := by simp at hp; omega
    have hxt : g.1[t]? = some g.1[t] := List.getElem?_eq_getElem (by omega)
    obtain ⟨b, off, sx, A4, c4, rfl, hb, -, hx2, -, -, hfl⟩ := typ_at (rGr_open h).1 hxt
    rw [hp, Bool.true_and, fldsG_at ht hxt] at Hv
    rw [hp, ht] at T1
    have T2 := Lib.hid (fun W (hW : Below w.heap.size w W) hG => equalFV_any (some ⟨b, off, none⟩) B C N c M d K e g A4 A2 g.1[t].2.length c4 o.2.2.length c2 g.1[t].2 o.2.2 w.heap.size W hG (gr_below hW h) (flds_below hW hfl) (vals_below hW hv))
    have hil : (t : Int) < (N : Int) := by omega
    have hi0 : (0 : Int) ≤ (t : Int) := by omega
    have hx2' := (hB0.cell (p := ⟨b, off + t * 2 + 1, none⟩) hb).trans hx2
    have S0 := And.intro (p1.cell (j := 0) rfl) (And.intro (p2.cell (j := 1) rfl) (And.intro (p2.cell (j := 2) rfl) hx2'))
    have HB0 := Lib.hid hB0
    have hb1 : b < ((w.alloc (.cells #[.slice (some ⟨b, off, none⟩) N c, .slice B M d, .slice C K e] 28)).alloc (.cells #[.int .i64 o.1, .int .i64 o.2.1, .slice A2 o.2.2.length c2] 38)).heap.size := Nat.lt_of_lt_of_le hb hB0.size
    have P1 := Lib.hid p1
    clear h hv hfl hx2 hx2' hB0 p1 p2 hp
    rw [ht] at *
    generalize mayO g o = r at *
    generalize all2 (haveG g) g.1[t].2 o.2.2 = m1 at *
    generalize g.1[t].2.length = fl at *
    generalize o.2.2.length = vl at *
    generalize o.1 = oid at *
    clear hxt ht
    go_enter Try.func64, Try.ntmps64
    go_wp2
    generalize (w.alloc (.cells #[.slice (some ⟨b, off, none⟩) N c, .slice B M d, .slice C K e] 28)).alloc (.cells #[.int .i64 oid, .int .i64 (t : Int), .slice A2 vl c2] 38) = w0 at *
    refine sch_start [(0, true), (1, true), (2, true), (3, true), (4, true), (5, true), (6, false), (7, true), (8, true), (9, true), (10, true), (11, true), (12, true), (13, true), (14, true), (15, true), (16, true), (17, true), (18, true), (19, false), (20, true), (21, true)]
      (fun W => W.cell? ⟨w.heap.size, 0, none⟩ = some (.slice (some ⟨b, off, none⟩) N c) ∧ W.cell? ⟨w.heap.size + 1, 1, none⟩ = some (.int .i64 (t : Int)) ∧ W.cell? ⟨w.heap.size + 1, 2, none⟩ = some (.slice A2 vl c2) ∧ W.cell? ⟨b, off + t * 2 + 1, none⟩ = some (.slice A4 fl c4)) (by kernel_rfl) rfl (by kernel_rfl) (fun _ _ _ _ _ h => h) S0 (fun hH => ?_)
    repeat (first | (refine sch_yes (v := ?_) rfl rfl ?_ hH ?_; rotate_left; (focus ((rintro W ⟨hW1, hW2, hW3, hW4⟩; go_simp) <;> with_reducible rfl)); simp only [Act.put, List.setIfInBounds_toArray, List.set_cons_zero, List.set_cons_succ]) | (refine sch_no rfl rfl hH ?_; simp only [Act.put, List.setIfInBounds_toArray, List.set_cons_zero, List.set_cons_succ]))
    refine sch_call rfl rfl (fun K hK => ?_)
    go_wp2_with (go_at_call 75; refine (T1.out _).mono ?_; rintro e w8 ⟨rfl, rfl⟩)
    refine hK.out _ _ S0 ?_
    clear hK hH
    have hH := S0
    repeat (first | (refine sch_yes (v := ?_) rfl rfl ?_ hH ?_; rotate_left; (focus ((rintro W ⟨hW1, hW2, hW3, hW4⟩; go_simp) <;> with_reducible rfl)); simp only [Act.put, List.setIfInBounds_toArray, List.set_cons_zero, List.set_cons_succ]) | (refine sch_no rfl rfl hH ?_; simp only [Act.put, List.setIfInBounds_toArray, List.set_cons_zero, List.set_cons_succ]))
    refine sch_call rfl rfl (fun K hK => ?_)
    go_wp2_with (go_at_call 88; refine (T2.out _ HB0.out.drew P1.out).mono ?_; rintro e w9 ⟨rfl, hB9⟩)
    have hC9 : Below w0.heap.size w0 w9 := (Below.refl w0.heap.size w0).drew.trans hB9
    have hH8 := And.intro ((hC9.cell (p := ⟨w.heap.size, 0, none⟩) l1).trans S0.1) (And.intro ((hC9.cell (p := ⟨w.heap.size + 1, 1, none⟩) l2).trans S0.2.1) (And.intro ((hC9.cell (p := ⟨w.heap.size + 1, 2, none⟩) l2).trans S0.2.2.1) ((hC9.cell (p := ⟨b, off + t * 2 + 1, none⟩) hb1).trans S0.2.2.2)))
    refine hK.out _ _ hH8 ?_
    clear hK hH
    have hH := hH8
    repeat (first | (refine sch_yes (v := ?_) rfl rfl ?_ hH ?_; rotate_left; (focus ((rintro W ⟨hW1, hW2, hW3, hW4⟩; go_simp) <;> with_reducible rfl)); simp only [Act.put, List.setIfInBounds_toArray, List.set_cons_zero, List.set_cons_succ]) | (refine sch_no rfl rfl hH ?_; simp only [Act.put, List.setIfInBounds_toArray, List.set_cons_zero, List.set_cons_succ]))
    refine sch_done ?_
    clear hH hH8
    go_wp2
    go_ret
    exact ⟨by rw [Hv.out]; rfl, HB0.out.trans (hC9.mono HB0.out.size)⟩
  · have hp' : (decide (0 ≤ o.2.1) && decide (o.2.1 < (N : Int))) = false := by simpa using hp
    rw [hp', Bool.false_and] at Hv
    rw [hp'] at T1
    have HB0 := Lib.hid hB0
    have S0 := And.intro (p1.cell (j := 0) rfl) (p2.cell (j := 1) rfl)
    clear h hv hB0 p1 p2 hp hp'
    generalize mayO g o = r at *
    generalize o.2.2.length = vl at *
    generalize o.1 = oid at *
    generalize o.2.1 = ot at *
    go_enter Try.func64, Try.ntmps64
    go_wp2
    generalize (w.alloc (.cells #[.slice A N c, .slice B M d, .slice C K e] 28)).alloc (.cells #[.int .i64 oid, .int .i64 ot, .slice A2 vl c2] 38) = w0 at *
    refine sch_start [(0, true), (1, true), (2, true), (3, true), (4, true), (5, true), (6, false), (7, true), (8, true), (9, true), (10, true), (11, true), (12, true), (13, true), (14, true), (15, true), (16, true), (17, true), (18, true), (19, false), (20, true), (21, true)]
      (fun W => W.cell? ⟨w.heap.size, 0, none⟩ = some (.slice A N c) ∧ W.cell? ⟨w.heap.size + 1, 1, none⟩ = some (.int .i64 ot)) (by kernel_rfl) rfl (by kernel_rfl) (fun _ _ _ _ _ h => h) S0 (fun hH => ?_)
    repeat (first | (refine sch_yes (v := ?_) rfl rfl ?_ hH ?_; rotate_left; (focus ((rintro W ⟨hW1, hW2⟩; go_simp) <;> with_reducible rfl)); simp only [Act.put, List.setIfInBounds_toArray, List.set_cons_zero, List.set_cons_succ]) | (refine sch_no rfl rfl hH ?_; simp only [Act.put, List.setIfInBounds_toArray, List.set_cons_zero, List.set_cons_succ]))
    refine sch_call rfl rfl (fun K hK => ?_)
    go_wp2_with (go_at_call 75; refine (T1.out _).mono ?_; rintro e w8 ⟨rfl, rfl⟩)
    refine hK.out _ _ S0 ?_
    clear hK hH
    have hH := S0
    repeat (first | (refine sch_yes (v := ?_) rfl rfl ?_ hH ?_; rotate_left; (focus ((rintro W ⟨hW1, hW2⟩; go_simp) <;> with_reducible rfl)); simp only [Act.put, List.setIfInBounds_toArray, List.set_cons_zero, List.set_cons_succ]) | (refine sch_no rfl rfl hH ?_; simp only [Act.put, List.setIfInBounds_toArray, List.set_cons_zero, List.set_cons_succ]))
    refine sch_call_no rfl rfl hH ?_
    repeat (first | (refine sch_yes (v := ?_) rfl rfl ?_ hH ?_; rotate_left; (focus ((rintro W ⟨hW1, hW2⟩; go_simp) <;> with_reducible rfl)); simp only [Act.put, List.setIfInBounds_toArray, List.set_cons_zero, List.set_cons_succ]) | (refine sch_no rfl rfl hH ?_; simp only [Act.put, List.setIfInBounds_toArray, List.set_cons_zero, List.set_cons_succ]))
    refine sch_done ?_
    clear hH
    go_wp2
    go_ret
    exact ⟨by rw [Hv.out]; rfl, HB0.out.drew⟩
end Go.Proofs.Yteafbdebmhpffaa

/- The contracts of graph's mayObjs, mayRoot, mayRoots and May: what the plain functions tell; nothing that was there is changed. No condition. -/
namespace Go.Proofs.Yteafbdebmhpffaa
open Go.RowKit

set_option maxRecDepth 100000 in
set_option maxHeartbeats 2000000 in
theorem mayObjs_any (A B C : Option Addr) (N c M d K e : Nat) (g : Gr) (w : World) (h : rGr (All w) w [.slice A N c, .slice B M d, .slice C K e] g) :
    Calls Try.prog 40 #[.agg #[.slice A N c, .slice B M d, .slice C K e]] w fun e w' => e = .returned (.bool (mayOs g)) ∧ Below w.heap.size w w' := by
  obtain ⟨hM, hMd, hdm⟩ := slice_len (rGr_open h).2.1
  simp only [maxLen] at hdm
  have hB0 : Below w.heap.size w (w.alloc (.cells #[.slice A N c, .slice B M d, .slice C K e] 28)) := (Below.refl _ w).alloc (Nat.le_refl _) _
  by_cases h8 : M ≤ 8
  · have Hm : Hid (mayOs g = riseG g (-1) (g.2.1.drop 0)) := Lib.hid (by rw [mayOs, decide_eq_true (by omega), Bool.true_and, List.drop_zero])
    have h8' : decide ((8 : Int) < (M : Int)) = false := by simp; omega
    generalize mayOs g = r at *
    go_enter Try.func40, Try.ntmps40
    go_wp2
    go_loopw [3, 13] (fun lv iv w' => ∃ (i : Nat) (last : Int), i ≤ M ∧ iv = .int .i64 (i : Int) ∧ lv = .int .i64 last ∧ Below w.heap.size w w' ∧ Blk w' w.heap.size 28 [.slice A N c, .slice B M d, .slice C K e] ∧ Hid (r = riseG g last (g.2.1.drop i))) (fun _ iv _ => M - (intOf iv).toNat)
    case atStart => exact ⟨0, -1, by omega, rfl, rfl, hB0, Blk.new w _ [.slice A N c, .slice B M d, .slice C K e], Hm⟩
    case round =>
      rename_i lv iv wr
      obtain ⟨i, last, hi, rfl, rfl, hB, b1, hr⟩ := hrel
      clear Hm hB0
      by_cases hin : i < M
      · have hoi : g.2.1[i]? = some g.2.1[i] := List.getElem?_eq_getElem (by omega)
        obtain ⟨b, off, A2, c2, rfl, hb, hx1, hx2, hx3, hvs, -, -⟩ := ob_at (rGr_open (gr_below hB h)).2.1 hoi
        have hil : (i : Int) < (M : Int) := by omega
        have hi0 : (0 : Int) ≤ (i : Int) := by omega
        have hr' := hr.out
        rw [riseG_at hoi] at hr'
        have Hr := Lib.hid hr'
        clear hr' hr hoi
        generalize g.2.1[i] = o at *
        have hB1 : Below wr.heap.size wr (wr.alloc (.cells #[.int .i64 o.1, .int .i64 o.2.1, .slice A2 o.2.2.length c2] 38)) := (Below.refl _ wr).alloc (Nat.le_refl _) _
        have b3 := Blk.new wr 38 [.int .i64 o.1, .int .i64 o.2.1, .slice A2 o.2.2.length c2]
        have hvs1 := vals_below hB1 hvs
        have T1 := Lib.hid (fun W (hW : Below w.heap.size w W) hq => mayObj_any A (some ⟨b, off, none⟩) C N c M d K e g o A2 c2 W (gr_below hW h) hq)
        have H0 := Lib.hid (hB.trans (hB1.mono hB.size))
        have b1' := b1.to hB1
        have c0 := b1'.cell (j := 0) rfl
        have c1 := b1'.cell (j := 1) rfl
        have c2' := b1'.cell (j := 2) rfl
        have Hvs := Lib.hid hvs1
        clear hB b1 h hvs hvs1
        generalize mayO g o = m1 at *
        generalize em2 : riseG g o.1 (g.2.1.drop (i + 1)) = m2 at *
        by_cases hl : o.1 ≤ last
        · have hl' : decide (o.1 ≤ last) = true := decide_eq_true hl
          have Hr2 : Hid (r = false) := Lib.hid (by rw [Hr.out, decide_eq_false (p := last < o.1) (by omega)]; rfl)
          clear hl
          go_wp2
          go_ret
          exact ⟨by rw [Hr2.out]; rfl, H0.out⟩
        · have hl' : decide (o.1 ≤ last) = false := decide_eq_false hl
          by_cases hx : 1073741824 < o.1
          · have hx' : decide ((1073741824 : Int) < o.1) = true := decide_eq_true hx
            have Hr2 : Hid (r = false) := Lib.hid (by rw [Hr.out, decide_eq_false (p := o.1 ≤ 1073741824) (by omega)]; simp)
            clear hl hx
            go_wp2
            go_ret
            exact ⟨by rw [Hr2.out]; rfl, H0.out⟩
          · have hx' : decide ((1073741824 : Int) < o.1) = false := decide_eq_false hx
            have Hr2 : Hid (r = (m1 && m2)) := Lib.hid (by rw [Hr.out, decide_eq_true (p := o.1 ≤ 1073741824) (by omega), decide_eq_true (p := last < o.1) (by omega)]; simp)
            clear hl hx Hr
            go_wp2_with fail
            refine (T1.out _ H0.out Hvs.out).mono ?_
            rintro e w1 ⟨rfl, hB2⟩
            have H1 := Lib.hid (H0.out.trans (hB2.mono H0.out.size))
            have b1w := b1'.to hB2
            have b3w : Blk w1 wr.heap.size 38 [.int .i64 o.1, .int .i64 o.2.1, .slice A2 o.2.2.length c2] := b3.to hB2
            have d3 := b3w.cell (j := 0) rfl
            clear hB2 c0 c1 c2' b1' b3
            cases m1
            · go_wp2
              go_ret
              exact ⟨by rw [Hr2.out]; rfl, H1.out⟩
            · rw [Bool.true_and] at Hr2

              go_wp2
              go_roundw
              case rel => exact ⟨i + 1, o.1, by omega, by go_num, rfl, H1.out, b1w, Lib.hid (Hr2.out.trans em2.symm)⟩
              case measure => simp [intOf]; omega
      · obtain rfl : i = M := by omega
        have hr' := hr.out
        rw [riseG_end (by omega)] at hr'
        clear hr
        go_wp2
        go_ret
        exact ⟨by rw [hr']; rfl, hB⟩
  · have Hm : Hid (mayOs g = false) := Lib.hid (by rw [mayOs, decide_eq_false (by omega), Bool.false_and])
    have h8' : decide ((8 : Int) < (M : Int)) = true := by simp; omega
    go_enter Try.func40, Try.ntmps40
    go_wp2
    go_ret
    exact ⟨by rw [Hm.out]; rfl, hB0⟩

set_option maxRecDepth 100000 in
theorem mayRoot_any (A B C : Option Addr) (N c M d K e : Nat) (g : Gr) (n : Int) (w : World) (h : rGr (All w) w [.slice A N c, .slice B M d, .slice C K e] g) :
    Calls Try.prog 65 #[.agg #[.slice A N c, .slice B M d, .slice C K e], .int .i64 n] w fun e w' => e = .returned (.bool (rootG g.2.1 n)) ∧ Below w.heap.size w w' := by
  have hB0 : Below w.heap.size w (w.alloc (.cells #[.slice A N c, .slice B M d, .slice C K e] 28)) := (Below.refl _ w).alloc (Nat.le_refl _) _
  have T1 := Lib.hid (gfind_any A B C N c M d K e g n _ (gr_below hB0 h))
  have Hv : Hid (rootG g.2.1 n = (decide (n = -1) || decide (findG g.2.1 n ≠ -1))) := Lib.hid rfl
  clear h
  generalize rootG g.2.1 n = r at *
  generalize findG g.2.1 n = q at *
  by_cases hn : n = -1
  · have hn' : (n == -1) = true := by simp [hn]
    have Hr : Hid (r = true) := Lib.hid (by rw [Hv.out]; simp [hn])
    clear Hv hn
    go_enter Try.func65, Try.ntmps65
    go_wp2
    go_ret
    exact ⟨by rw [Hr.out]; rfl, hB0⟩
  · have hn' : (n == -1) = false := by simp [hn]
    have Hr : Hid (r = (q != -1)) := Lib.hid (by rw [Hv.out, decide_eq_false hn, Bool.false_or]; by_cases e : q = -1 <;> simp [e])
    clear Hv hn
    go_enter Try.func65, Try.ntmps65
    go_wp2_with fail
    refine T1.out.mono ?_
    rintro e w1 ⟨rfl, hB1⟩
    go_wp2
    go_ret
    exact ⟨by rw [Hr.out]; rfl, hB0.trans (hB1.mono hB0.size)⟩

set_option maxRecDepth 100000 in
set_option maxHeartbeats 2000000 in
theorem mayRoots_any (A B C : Option Addr) (N c M d K e : Nat) (g : Gr) (w : World) (h : rGr (All w) w [.slice A N c, .slice B M d, .slice C K e] g) :
    Calls Try.prog 41 #[.agg #[.slice A N c, .slice B M d, .slice C K e]] w fun e w' => e = .returned (.bool (mayRs g)) ∧ Below w.heap.size w w' := by
  obtain ⟨hM, hMd, hdm⟩ := slice_len (rGr_open h).2.2
  simp only [maxLen] at hdm
  have hB0 : Below w.heap.size w (w.alloc (.cells #[.slice A N c, .slice B M d, .slice C K e] 28)) := (Below.refl _ w).alloc (Nat.le_refl _) _
  by_cases h3 : K ≤ 3
  · have Hm : Hid (mayRs g = (g.2.2.drop 0).all (rootG g.2.1)) := Lib.hid (by rw [mayRs, decide_eq_true (by omega), Bool.true_and, List.drop_zero])
    have h3' : decide ((3 : Int) < (K : Int)) = false := by simp; omega
    generalize mayRs g = r at *
    go_enter Try.func41, Try.ntmps41
    go_wp2
    go_loopw [12] (fun iv w' => ∃ i : Nat, i ≤ K ∧ iv = .int .i64 (i : Int) ∧ Below w.heap.size w w' ∧ Blk w' w.heap.size 28 [.slice A N c, .slice B M d, .slice C K e] ∧ Hid (r = (g.2.2.drop i).all (rootG g.2.1))) (fun iv _ => K - (intOf iv).toNat)
    case atStart => exact ⟨0, by omega, rfl, hB0, Blk.new w _ [.slice A N c, .slice B M d, .slice C K e], Hm⟩
    case round =>
      rename_i iv wr
      obtain ⟨i, hi, rfl, hB, b1, hr⟩ := hrel
      clear Hm hB0
      by_cases hin : i < K
      · have hoi : g.2.2[i]? = some g.2.2[i] := List.getElem?_eq_getElem (by omega)
        obtain ⟨b, off, rfl, hb, hx1, -⟩ := id_at (rGr_open (gr_below hB h)).2.2 hoi
        have hil : (i : Int) < (K : Int) := by omega
        have hi0 : (0 : Int) ≤ (i : Int) := by omega
        have hr' := hr.out
        rw [all_at hoi] at hr'
        have Hr := Lib.hid hr'
        clear hr' hr hoi
        generalize g.2.2[i] = n at *
        have T1 := Lib.hid (fun W (hW : Below w.heap.size w W) => mayRoot_any A B (some ⟨b, off, none⟩) N c M d K e g n W (gr_below hW h))
        have H0 := Lib.hid hB
        have c0 := b1.cell (j := 0) rfl
        have c1 := b1.cell (j := 1) rfl
        have c2' := b1.cell (j := 2) rfl
        clear hB h
        generalize rootG g.2.1 n = m1 at *
        go_wp2_with fail
        refine (T1.out _ H0.out).mono ?_
        rintro e w1 ⟨rfl, hB2⟩
        have H1 := Lib.hid (H0.out.trans (hB2.mono H0.out.size))
        have b1w := b1.to hB2
        clear hB2 c0 c1 c2' b1
        cases m1
        · go_wp2
          go_ret
          exact ⟨by rw [Hr.out]; rfl, H1.out⟩
        · rw [Bool.true_and] at Hr
          go_wp2
          go_roundw
          case rel => exact ⟨i + 1, by omega, by go_num, H1.out, b1w, Hr⟩
          case measure => simp [intOf]; omega
      · obtain rfl : i = K := by omega
        have hr' := hr.out
        rw [all_end (by omega)] at hr'
        clear hr
        go_wp2
        go_ret
        exact ⟨by rw [hr']; rfl, hB⟩
  · have Hm : Hid (mayRs g = false) := Lib.hid (by rw [mayRs, decide_eq_false (by omega), Bool.false_and])
    have h3' : decide ((3 : Int) < (K : Int)) = true := by simp; omega
    go_enter Try.func41, Try.ntmps41
    go_wp2
    go_ret
    exact ⟨by rw [Hm.out]; rfl, hB0⟩

set_option maxRecDepth 100000 in
set_option maxHeartbeats 1000000 in
theorem gmay_any (A B C : Option Addr) (N c M d K e : Nat) (g : Gr) (w : World) (h : rGr (All w) w [.slice A N c, .slice B M d, .slice C K e] g) :
    Calls Try.prog 20 #[.agg #[.slice A N c, .slice B M d, .slice C K e]] w fun e w' => e = .returned (.bool (mayG g)) ∧ Below w.heap.size w w' := by
  have hB0 : Below w.heap.size w (w.alloc (.cells #[.slice A N c, .slice B M d, .slice C K e] 28)) := (Below.refl _ w).alloc (Nat.le_refl _) _
  have b1 := Blk.new w 28 [.slice A N c, .slice B M d, .slice C K e]
  have T1 := Lib.hid (may_any A N c g.1 _ (sch_below hB0 (rGr_open h).1))
  have T2 := Lib.hid (fun W (hW : Below w.heap.size w W) => mayObjs_any A B C N c M d K e g W (gr_below hW h))
  have T3 := Lib.hid (fun W (hW : Below w.heap.size w W) => mayRoots_any A B C N c M d K e g W (gr_below hW h))
  have Hv : Hid (mayG g = (mayS g.1 && mayOs g && mayRs g)) := Lib.hid rfl
  have HB0 := Lib.hid hB0
  clear h hB0
  generalize mayG g = r at *
  generalize mayS g.1 = m1 at *
  generalize mayOs g = m2 at *
  generalize mayRs g = m3 at *
  go_enter Try.func20, Try.ntmps20
  go_wp2_with fail
  refine T1.out.mono ?_
  rintro e w1 ⟨rfl, hB1⟩
  have H1 := Lib.hid (HB0.out.trans (hB1.mono HB0.out.size))
  replace b1 := b1.to hB1
  clear hB1 HB0
  cases m1
  · go_wp2
    go_ret
    exact ⟨by rw [Hv.out]; rfl, H1.out⟩
  have c0 := b1.cell (j := 0) rfl
  have c1 := b1.cell (j := 1) rfl
  have c2 := b1.cell (j := 2) rfl
  go_wp2_with fail
  refine (T2.out _ H1.out).mono ?_
  rintro e w2 ⟨rfl, hB2⟩
  have H2 := Lib.hid (H1.out.trans (hB2.mono H1.out.size))
  replace b1 := b1.to hB2
  clear hB2 H1 c0 c1 c2
  cases m2
  · go_wp2
    go_ret
    exact ⟨by rw [Hv.out]; rfl, H2.out⟩
  have c0 := b1.cell (j := 0) rfl
  have c1 := b1.cell (j := 1) rfl
  have c2 := b1.cell (j := 2) rfl
  go_wp2_with fail
  refine (T3.out _ H2.out).mono ?_
  rintro e w3 ⟨rfl, hB3⟩
  have H3 := Lib.hid (H2.out.trans (hB3.mono H2.out.size))
  go_wp2
  go_ret
  exact ⟨by rw [Hv.out]; rfl, H3.out⟩
end Go.Proofs.Yteafbdebmhpffaa
