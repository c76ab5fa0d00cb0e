/- The contracts of graph's isPlace and mayHave: may a field have that value? Nothing that was there is changed. No condition. -/
import Derived.Test.YteafbdebmhpffaaGrFind
import Derived.Test.YteafbdebmhpffaaVlFitsAll
import Derived.Test.YteafbdebmhpffaaScMay
import Derived.Test.YteafbdebmhpffaaForkLAll
namespace Go.Proofs.Yteafbdebmhpffaa
open Go.RowKit

/-- Three boxes, one behind the other. -/
theorem blk_three (w : World) (t1 t2 t3 : TypeId) (u v x : List Value) : Blk (((w.alloc (.cells u.toArray t1)).alloc (.cells v.toArray t2)).alloc (.cells x.toArray t3)) w.heap.size t1 u ∧
    Blk (((w.alloc (.cells u.toArray t1)).alloc (.cells v.toArray t2)).alloc (.cells x.toArray t3)) (w.heap.size + 1) t2 v ∧ Blk (((w.alloc (.cells u.toArray t1)).alloc (.cells v.toArray t2)).alloc (.cells x.toArray t3)) (w.heap.size + 2) t3 x := by
  refine ⟨((Blk.new w t1 u).alloc _).alloc _, ?_, ?_⟩
  · have := (Blk.new (w.alloc (.cells u.toArray t1)) t2 v).alloc (.cells x.toArray t3)
    simpa using this
  · have := Blk.new ((w.alloc (.cells u.toArray t1)).alloc (.cells v.toArray t2)) t3 x
    simpa using this
theorem blk_two (w : World) (t1 t2 : TypeId) (u v : List Value) : Blk ((w.alloc (.cells u.toArray t1)).alloc (.cells v.toArray t2)) w.heap.size t1 u ∧ Blk ((w.alloc (.cells u.toArray t1)).alloc (.cells v.toArray t2)) (w.heap.size + 1) t2 v := by
  refine ⟨(Blk.new w t1 u).alloc _, ?_⟩
  have := Blk.new (w.alloc (.cells u.toArray t1)) t2 v
  simpa using this

set_option maxRecDepth 100000 in
theorem isPlace_any (i n : Int) (w : World) : Calls Try.prog 75 #[.int .i64 i, .int .i64 n] w fun e w' => e = .returned (.bool (decide (0 ≤ i) && decide (i < n))) ∧ w' = w := by
  by_cases h : 0 ≤ i
  · have h' : decide (0 ≤ i) = true := decide_eq_true h
    rw [h', Bool.true_and]
    go_enter Try.func75, Try.ntmps75
    go_wp2
    go_ret
    exact ⟨rfl, rfl⟩
  · have h' : decide (0 ≤ i) = false := decide_eq_false h
    rw [h', Bool.false_and]
    go_enter Try.func75, Try.ntmps75
    go_wp2
    go_ret
    exact ⟨rfl, rfl⟩

set_option maxRecDepth 100000 in
set_option maxHeartbeats 2000000 in
theorem mayHave_any (A B C : Option Addr) (N c M d K e : Nat) (g : Gr) (x y s : ByteArray) (f : Fld) (v : Vl) (w : World) (h : rGr (All w) w [.slice A N c, .slice B M d, .slice C K e] g) (hy : byt y = f.2.2) (hs : byt s = v.2.1) :
    Calls Try.prog 76 #[.agg #[.slice A N c, .slice B M d, .slice C K e], .agg #[.string x, .int .i64 f.2.1, .string y], .agg #[.int .i64 v.1, .string s, .int .i64 v.2.2]] w fun e w' => e = .returned (.bool (haveG g f v)) ∧ Below w.heap.size w w' := by
  have hB0 : Below w.heap.size w (((w.alloc (.cells #[.slice A N c, .slice B M d, .slice C K e] 28)).alloc (.cells #[.string x, .int .i64 f.2.1, .string y] 48)).alloc (.cells #[.int .i64 v.1, .string s, .int .i64 v.2.2] 42)) :=
    (((Below.refl _ w).alloc (Nat.le_refl _) _).alloc (by simp) _).alloc (by simp; omega) _
  obtain ⟨p1, p2, p3⟩ := blk_three w 28 48 42 [.slice A N c, .slice B M d, .slice C K e] [.string x, .int .i64 f.2.1, .string y] [.int .i64 v.1, .string s, .int .i64 v.2.2]
  have T1 := Lib.hid (fun W => vlfits_any x y s f.2.1 v.1 v.2.2 W)
  have T2 := Lib.hid (fun W (hW : Below w.heap.size w W) => gfind_any A B C N c M d K e g v.2.2 W (gr_below hW h))
  have T3 := Lib.hid (fun W (hW : Below w.heap.size w W) => find_any A N c g.1 y W (sch_below hW (rGr_open h).1))
  rw [hy] at T3
  rw [show (v.1, byt s, v.2.2) = v by rw [hs]] at T1
  have Ho := Lib.hid (fun W (hW : Below w.heap.size w W) => (rGr_open (gr_below hW h)).2.1)
  obtain ⟨hM, hMd, hdm⟩ := slice_len (rGr_open h).2.1
  simp only [maxLen] at hdm
  have Hv : Hid (haveG g f v = (fitsV f.2.1 v && (decide (f.2.1 ≠ 5) || decide (v.2.2 = -1) || (decide (findG g.2.1 v.2.2 ≠ -1) && decide (typG g.2.1 v.2.2 = findS g.1 f.2.2))))) := Lib.hid rfl
  clear h hs hy
  have Hf := Lib.hid (fun h => findG_at (os := g.2.1) (id := v.2.2) h)
  generalize haveG g f v = r at *
  generalize fitsV f.2.1 v = m1 at *
  generalize findG g.2.1 v.2.2 = q at *
  generalize typG g.2.1 v.2.2 = ty at *
  generalize findS g.1 f.2.2 = q2 at *
  generalize f.2.1 = k at *
  generalize v.1 = n1 at *
  generalize v.2.2 = n2 at *
  have HB0 := Lib.hid hB0
  clear hB0
  go_enter Try.func76, Try.ntmps76
  go_wp2_with fail
  refine (T1.out _).mono ?_
  rintro e w1 ⟨rfl, hB1⟩
  have H1 := Lib.hid (HB0.out.trans (hB1.mono HB0.out.size))
  cases m1
  · go_wp2
    go_ret
    exact ⟨by rw [Hv.out]; rfl, H1.out⟩
  replace p1 := p1.to hB1
  replace p2 := p2.to hB1
  replace p3 := p3.to hB1
  clear hB1 HB0 T1
  have c1 := p2.cell (j := 1) rfl
  have c2 := p3.cell (j := 2) rfl
  by_cases h5 : k = 5
  · have h5' : (k != 5) = false := by simp [h5]
    by_cases hm : n2 = -1
    · have hm' : (n2 == -1) = true := by simp [hm]
      have Hr : Hid (r = true) := Lib.hid (by rw [Hv.out]; simp [hm])
      clear Hv hm h5
      go_wp2
      go_ret
      exact ⟨by rw [Hr.out]; rfl, H1.out⟩
    · have hm' : (n2 == -1) = false := by simp [hm]
      have Hr : Hid (r = (decide (q ≠ -1) && decide (ty = q2))) := Lib.hid (by rw [Hv.out]; simp [hm, h5])
      clear Hv hm h5
      have c3 := p1.cell (j := 0) rfl
      have c4 := p1.cell (j := 1) rfl
      have c5 := p1.cell (j := 2) rfl
      go_wp2_with fail
      refine (T2.out _ H1.out).mono ?_
      rintro e w2 ⟨rfl, hB2⟩
      have H2 := Lib.hid (H1.out.trans (hB2.mono H1.out.size))
      replace p1 := p1.to hB2
      replace p2 := p2.to hB2
      replace p3 := p3.to hB2
      clear hB2 c1 c2 c3 c4 c5 H1
      have c2 := p2.cell (j := 2) rfl
      have c3 := p1.cell (j := 0) rfl
      have c4 := p1.cell (j := 1) rfl
      by_cases hq : q = -1
      · subst hq
        have Hr2 : Hid (r = false) := Lib.hid (by rw [Hr.out]; rfl)
        go_wp2
        refine sch_start [(0, true), (1, true), (2, true), (3, true), (4, true), (5, true), (6, true), (7, true), (8, true), (9, true), (10, true), (11, true), (12, true), (13, false), (14, true), (15, true), (16, true)]
          (fun _ => True) (by kernel_rfl) rfl (by kernel_rfl) (fun _ _ _ _ _ h => h) trivial (fun hH => ?_)
        repeat (first | (refine sch_yes (v := ?_) rfl rfl ?_ hH ?_; rotate_left; (focus ((intro W hW; go_simp) <;> with_reducible rfl)); simp only [Act.put, List.setIfInBounds_toArray, List.set_cons_zero, List.set_cons_succ]) | (refine sch_no rfl rfl hH ?_; simp only [Act.put, List.setIfInBounds_toArray, List.set_cons_zero, List.set_cons_succ]))
        refine sch_call_no rfl rfl hH ?_
        repeat (first | (refine sch_yes (v := ?_) rfl rfl ?_ hH ?_; rotate_left; (focus ((intro W hW; go_simp) <;> with_reducible rfl)); simp only [Act.put, List.setIfInBounds_toArray, List.set_cons_zero, List.set_cons_succ]) | (refine sch_no rfl rfl hH ?_; simp only [Act.put, List.setIfInBounds_toArray, List.set_cons_zero, List.set_cons_succ]))
        refine sch_done ?_
        clear hH
        go_wp2
        go_ret
        exact ⟨by rw [Hr2.out]; rfl, H2.out.drew⟩
      · obtain ⟨i, o, hi, ho, -, hty⟩ := Hf.out hq
        obtain ⟨b, off, A2, c2', rfl, hb, -, hx2, -, -, -, -⟩ := ob_at (Ho.out _ H2.out) ho
        have hlt := (List.getElem?_eq_some_iff.1 ho).1
        have hq' : (q != -1) = true := by simp [hq]
        subst hi
        rw [← hty] at hx2
        have hil : (i : Int) < (M : Int) := by omega
        have hi0 : (0 : Int) ≤ (i : Int) := by omega
        have hR2 := Hr.out
        rw [decide_eq_true hq, Bool.true_and] at hR2
        have Hr2 := Lib.hid hR2
        clear hR2 Hr Hf hty ho hq hlt
        have HB2 := Lib.hid (Below.refl w2.heap.size w2)
        have S0 : w2.cell? ⟨w.heap.size + 1, 2, none⟩ = some (.string y) ∧ w2.cell? ⟨w.heap.size, 0, none⟩ = some (.slice A N c) ∧ w2.cell? ⟨w.heap.size, 1, none⟩ = some (.slice (some ⟨b, off, none⟩) M d) ∧ w2.cell? ⟨b, off + i * 3 + 1, none⟩ = some (.int .i64 ty) := ⟨c2, c3, c4, hx2⟩
        have l1 := p1.lt
        have l2 := p2.lt
        clear c2 c3 c4 hx2
        go_wp2
        refine sch_start [(0, true), (1, true), (2, true), (3, true), (4, true), (5, true), (6, true), (7, true), (8, true), (9, true), (10, true), (11, true), (12, true), (13, false), (14, true), (15, true), (16, true)]
          (fun W => W.cell? ⟨w.heap.size + 1, 2, none⟩ = some (.string y) ∧ W.cell? ⟨w.heap.size, 0, none⟩ = some (.slice A N c) ∧ W.cell? ⟨w.heap.size, 1, none⟩ = some (.slice (some ⟨b, off, none⟩) M d) ∧ W.cell? ⟨b, off + i * 3 + 1, none⟩ = some (.int .i64 ty)) (by kernel_rfl) rfl (by kernel_rfl) (fun _ _ _ _ _ h => h) S0 (fun hH => ?_)
        repeat (first | (refine sch_yes (v := ?_) rfl rfl ?_ hH ?_; rotate_left; (focus ((rintro W ⟨hW1, hW2, hW3, hW4⟩; go_simp) <;> with_reducible rfl)); simp only [Act.put, List.setIfInBounds_toArray, List.set_cons_zero, List.set_cons_succ]) | (refine sch_no rfl rfl hH ?_; simp only [Act.put, List.setIfInBounds_toArray, List.set_cons_zero, List.set_cons_succ]))
        refine sch_call rfl rfl (fun K hK => ?_)
        go_wp2_with (go_at_call 62; refine (T3.out _ H2.out.drew).mono ?_; rintro e w8 ⟨rfl, hC8⟩)
        have hC9 : Below w2.heap.size w2 w8 := (Below.refl w2.heap.size w2).drew.trans hC8
        have hH8 := And.intro ((hC9.cell (p := ⟨w.heap.size + 1, 2, none⟩) l2).trans S0.1) (And.intro ((hC9.cell (p := ⟨w.heap.size, 0, none⟩) l1).trans S0.2.1) (And.intro ((hC9.cell (p := ⟨w.heap.size, 1, none⟩) l1).trans S0.2.2.1) ((hC9.cell (p := ⟨b, off + i * 3 + 1, none⟩) hb).trans S0.2.2.2)))
        refine hK.out _ _ hH8 ?_
        clear hK hH
        have hH := hH8
        repeat (first | (refine sch_yes (v := ?_) rfl rfl ?_ hH ?_; rotate_left; (focus ((rintro W ⟨hW1, hW2, hW3, hW4⟩; go_simp) <;> with_reducible rfl)); simp only [Act.put, List.setIfInBounds_toArray, List.set_cons_zero, List.set_cons_succ]) | (refine sch_no rfl rfl hH ?_; simp only [Act.put, List.setIfInBounds_toArray, List.set_cons_zero, List.set_cons_succ]))
        refine sch_done ?_
        clear hH hH8
        go_wp2
        go_ret
        exact ⟨by rw [Hr2.out]; rfl, H2.out.trans (hC9.mono H2.out.size)⟩
  · have h5' : (k != 5) = true := by simp [h5]
    have Hr : Hid (r = true) := Lib.hid (by rw [Hv.out]; simp [h5])
    clear Hv h5
    go_wp2
    go_ret
    exact ⟨by rw [Hr.out]; rfl, H1.out⟩
end Go.Proofs.Yteafbdebmhpffaa
