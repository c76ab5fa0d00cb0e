/- The contracts of the document's own leads and object (layer 8). Nothing that was there is changed. No condition but that the object's place is one. -/
import Derived.Test.YteafbdebmhpffaaGrRefS
import Derived.Test.YteafbdebmhpffaaGrHave
import Derived.Test.YteafbdebmhpffaaVlRefFits
import Derived.Test.YteafbdebmhpffaaScRef1
import Derived.Test.YteafbdebmhpffaaForkLAll
namespace Go.Proofs.Yteafbdebmhpffaa
open Go.RowKit

set_option maxRecDepth 100000 in
set_option maxHeartbeats 2000000 in
theorem rleads_any (A B C : Option Addr) (N c M d K e : Nat) (g : Gr) (x y s : ByteArray) (f : Fld) (v : Vl) (w : World) (h : rGr (All w) w [.slice A N c, .slice B M d, .slice C K e] g) (hy : byt y = f.2.2) (hs : byt s = v.2.1) :
    Calls Try.prog 58 #[.agg #[.slice A N c, .slice B M d, .slice C K e], .agg #[.string x, .int .i64 f.2.1, .string y], .agg #[.int .i64 v.1, .string s, .int .i64 v.2.2]] w fun e w' => e = .returned (.bool (haveG g f v)) ∧ Below w.heap.size w w' := by
  have hB0 : Below w.heap.size w (((w.alloc (.cells #[.slice A N c, .slice B M d, .slice C K e] 28)).alloc (.cells #[.string x, .int .i64 f.2.1, .string y] 48)).alloc (.cells #[.int .i64 v.1, .string s, .int .i64 v.2.2] 42)) :=
    (((Below.refl _ w).alloc (Nat.le_refl _) _).alloc (by simp) _).alloc (by simp; omega) _
  obtain ⟨p1, p2, p3⟩ := blk_three w 28 48 42 [.slice A N c, .slice B M d, .slice C K e] [.string x, .int .i64 f.2.1, .string y] [.int .i64 v.1, .string s, .int .i64 v.2.2]
  have T1 := Lib.hid (fun W => rvlfits_any x y s f.2.1 v.1 v.2.2 W)
  have T2 := Lib.hid (fun W (hW : Below w.heap.size w W) => rgfind_any A B C N c M d K e g v.2.2 W (gr_below hW h))
  have T3 := Lib.hid (fun W (hW : Below w.heap.size w W) => rfind_any A N c g.1 y W (sch_below hW (rGr_open h).1))
  rw [hy] at T3
  rw [show (v.1, byt s, v.2.2) = v by rw [hs]] at T1
  have Ho := Lib.hid (fun W (hW : Below w.heap.size w W) => (rGr_open (gr_below hW h)).2.1)
  obtain ⟨hM, hMd, hdm⟩ := slice_len (rGr_open h).2.1
  simp only [maxLen] at hdm
  have Hv : Hid (haveG g f v = (fitsV f.2.1 v && (decide (f.2.1 ≠ 5) || decide (v.2.2 = -1) || (decide (findG g.2.1 v.2.2 ≠ -1) && decide (typG g.2.1 v.2.2 = findS g.1 f.2.2))))) := Lib.hid rfl
  clear h hs hy
  have Hf := Lib.hid (fun h => findG_at (os := g.2.1) (id := v.2.2) h)
  generalize haveG g f v = r at *
  generalize fitsV f.2.1 v = m1 at *
  generalize findG g.2.1 v.2.2 = q at *
  generalize typG g.2.1 v.2.2 = ty at *
  generalize findS g.1 f.2.2 = q2 at *
  generalize f.2.1 = k at *
  generalize v.1 = n1 at *
  generalize v.2.2 = n2 at *
  have HB0 := Lib.hid hB0
  clear hB0
  go_enter Try.func58, Try.ntmps58
  go_wp2_with fail
  refine (T1.out _).mono ?_
  rintro e w1 ⟨rfl, hB1⟩
  have H1 := Lib.hid (HB0.out.trans (hB1.mono HB0.out.size))
  cases m1
  · go_wp2
    go_ret
    exact ⟨by rw [Hv.out]; rfl, H1.out⟩
  replace p1 := p1.to hB1
  replace p2 := p2.to hB1
  replace p3 := p3.to hB1
  clear hB1 HB0 T1
  have c1 := p2.cell (j := 1) rfl
  have c2 := p3.cell (j := 2) rfl
  by_cases h5 : k = 5
  · have h5' : (k != 5) = false := by simp [h5]
    by_cases hm : n2 = -1
    · have hm' : (n2 == -1) = true := by simp [hm]
      have Hr : Hid (r = true) := Lib.hid (by rw [Hv.out]; simp [hm])
      clear Hv hm h5
      go_wp2
      go_ret
      exact ⟨by rw [Hr.out]; rfl, H1.out⟩
    · have hm' : (n2 == -1) = false := by simp [hm]
      have Hr : Hid (r = (decide (q ≠ -1) && decide (ty = q2))) := Lib.hid (by rw [Hv.out]; simp [hm, h5])
      clear Hv hm h5
      have c3 := p1.cell (j := 0) rfl
      have c4 := p1.cell (j := 1) rfl
      have c5 := p1.cell (j := 2) rfl
      go_wp2_with fail
      refine (T2.out _ H1.out).mono ?_
      rintro e w2 ⟨rfl, hB2⟩
      have H2 := Lib.hid (H1.out.trans (hB2.mono H1.out.size))
      replace p1 := p1.to hB2
      replace p2 := p2.to hB2
      replace p3 := p3.to hB2
      clear hB2 c1 c2 c3 c4 c5 H1
      have c2 := p2.cell (j := 2) rfl
      have c3 := p1.cell (j := 0) rfl
      have c4 := p1.cell (j := 1) rfl
      by_cases hq : q = -1
      · subst hq
        have Hr2 : Hid (r = false) := Lib.hid (by rw [Hr.out]; rfl)
        go_wp2
        refine sch_start [(0, true), (1, true), (2, true), (3, true), (4, true), (5, true), (6, true), (7, true), (8, true), (9, true), (10, true), (11, true), (12, true), (13, false), (14, true), (15, true), (16, true)]
          (fun _ => True) (by kernel_rfl) rfl (by kernel_rfl) (fun _ _ _ _ _ h => h) trivial (fun hH => ?_)
        repeat (first | (refine sch_yes (v := ?_) rfl rfl ?_ hH ?_; rotate_left; (focus ((intro W hW; go_simp) <;> with_reducible rfl)); simp only [Act.put, List.setIfInBounds_toArray, List.set_cons_zero, List.set_cons_succ]) | (refine sch_no rfl rfl hH ?_; simp only [Act.put, List.setIfInBounds_toArray, List.set_cons_zero, List.set_cons_succ]))
        refine sch_call_no rfl rfl hH ?_
        repeat (first | (refine sch_yes (v := ?_) rfl rfl ?_ hH ?_; rotate_left; (focus ((intro W hW; go_simp) <;> with_reducible rfl)); simp only [Act.put, List.setIfInBounds_toArray, List.set_cons_zero, List.set_cons_succ]) | (refine sch_no rfl rfl hH ?_; simp only [Act.put, List.setIfInBounds_toArray, List.set_cons_zero, List.set_cons_succ]))
        refine sch_done ?_
        clear hH
        go_wp2
        go_ret
        exact ⟨by rw [Hr2.out]; rfl, H2.out.drew⟩
      · obtain ⟨i, o, hi, ho, -, hty⟩ := Hf.out hq
        obtain ⟨b, off, A2, c2', rfl, hb, -, hx2, -, -, -, -⟩ := ob_at (Ho.out _ H2.out) ho
        have hlt := (List.getElem?_eq_some_iff.1 ho).1
        subst hi
        have hq' : decide ((0 : Int) ≤ (i : Int)) = true := decide_eq_true (Int.natCast_nonneg i)
        rw [← hty] at hx2
        have hil : (i : Int) < (M : Int) := by omega
        have hi0 : (0 : Int) ≤ (i : Int) := by omega
        have hR2 := Hr.out
        rw [decide_eq_true hq, Bool.true_and] at hR2
        have Hr2 := Lib.hid hR2
        clear hR2 Hr Hf hty ho hq hlt
        have HB2 := Lib.hid (Below.refl w2.heap.size w2)
        have S0 : w2.cell? ⟨w.heap.size + 1, 2, none⟩ = some (.string y) ∧ w2.cell? ⟨w.heap.size, 0, none⟩ = some (.slice A N c) ∧ w2.cell? ⟨w.heap.size, 1, none⟩ = some (.slice (some ⟨b, off, none⟩) M d) ∧ w2.cell? ⟨b, off + i * 3 + 1, none⟩ = some (.int .i64 ty) := ⟨c2, c3, c4, hx2⟩
        have l1 := p1.lt
        have l2 := p2.lt
        clear c2 c3 c4 hx2
        go_wp2
        refine sch_start [(0, true), (1, true), (2, true), (3, true), (4, true), (5, true), (6, true), (7, true), (8, true), (9, true), (10, true), (11, true), (12, true), (13, false), (14, true), (15, true), (16, true)]
          (fun W => W.cell? ⟨w.heap.size + 1, 2, none⟩ = some (.string y) ∧ W.cell? ⟨w.heap.size, 0, none⟩ = some (.slice A N c) ∧ W.cell? ⟨w.heap.size, 1, none⟩ = some (.slice (some ⟨b, off, none⟩) M d) ∧ W.cell? ⟨b, off + i * 3 + 1, none⟩ = some (.int .i64 ty)) (by kernel_rfl) rfl (by kernel_rfl) (fun _ _ _ _ _ h => h) S0 (fun hH => ?_)
        repeat (first | (refine sch_yes (v := ?_) rfl rfl ?_ hH ?_; rotate_left; (focus ((rintro W ⟨hW1, hW2, hW3, hW4⟩; go_simp) <;> with_reducible rfl)); simp only [Act.put, List.setIfInBounds_toArray, List.set_cons_zero, List.set_cons_succ]) | (refine sch_no rfl rfl hH ?_; simp only [Act.put, List.setIfInBounds_toArray, List.set_cons_zero, List.set_cons_succ]))
        refine sch_call rfl rfl (fun K hK => ?_)
        go_wp2_with (go_at_call 80; refine (T3.out _ H2.out.drew).mono ?_; rintro e w8 ⟨rfl, hC8⟩)
        have hC9 : Below w2.heap.size w2 w8 := (Below.refl w2.heap.size w2).drew.trans hC8
        have hH8 := And.intro ((hC9.cell (p := ⟨w.heap.size + 1, 2, none⟩) l2).trans S0.1) (And.intro ((hC9.cell (p := ⟨w.heap.size, 0, none⟩) l1).trans S0.2.1) (And.intro ((hC9.cell (p := ⟨w.heap.size, 1, none⟩) l1).trans S0.2.2.1) ((hC9.cell (p := ⟨b, off + i * 3 + 1, none⟩) hb).trans S0.2.2.2)))
        refine hK.out _ _ hH8 ?_
        clear hK hH
        have hH := hH8
        repeat (first | (refine sch_yes (v := ?_) rfl rfl ?_ hH ?_; rotate_left; (focus ((rintro W ⟨hW1, hW2, hW3, hW4⟩; go_simp) <;> with_reducible rfl)); simp only [Act.put, List.setIfInBounds_toArray, List.set_cons_zero, List.set_cons_succ]) | (refine sch_no rfl rfl hH ?_; simp only [Act.put, List.setIfInBounds_toArray, List.set_cons_zero, List.set_cons_succ]))
        refine sch_done ?_
        clear hH hH8
        go_wp2
        go_ret
        exact ⟨by rw [Hr2.out]; rfl, H2.out.trans (hC9.mono H2.out.size)⟩
  · have h5' : (k != 5) = true := by simp [h5]
    have Hr : Hid (r = true) := Lib.hid (by rw [Hv.out]; simp [h5])
    clear Hv h5
    go_wp2
    go_ret
    exact ⟨by rw [Hr.out]; rfl, H1.out⟩

/-- What the document asks of the object at a place, behind one of the id lst, but where its Refs lead. -/
def objB (g : Gr) (lst : Int) (o : Ob) : Bool := decide (0 ≤ o.1) && decide (o.1 ≤ 1073741824) && decide (lst < o.1) && (decide (0 ≤ o.2.1) && decide (o.2.1 < (g.1.length : Int))) && decide (o.2.2.length = (fldsG g.1 o.2.1).length)
/-- The id ahead of a place. -/
def lstG (os : List Ob) : Nat → Int
  | 0 => -1
  | j + 1 => (os.getD j (0, 0, [])).1
theorem lst_at {os : List Ob} {j : Nat} {p : Ob} (h : os[j]? = some p) : lstG os (j + 1) = p.1 := by
  rw [lstG, List.getD_eq_getElem?_getD, h]; rfl

set_option maxRecDepth 100000 in
set_option maxHeartbeats 2000000 in
theorem robject_any (A B C : Option Addr) (N c M d K e : Nat) (g : Gr) (I : Nat) (o : Ob) (w : World) (h : rGr (All w) w [.slice A N c, .slice B M d, .slice C K e] g) (ho : g.2.1[I]? = some o) :
    Calls Try.prog 57 #[.agg #[.slice A N c, .slice B M d, .slice C K e], .int .i64 (I : Int)] w fun e w' => e = .returned (.bool (objB g (lstG g.2.1 I) o)) ∧ Below w.heap.size w w' := by
  obtain ⟨hN, hNc, hcm⟩ := slice_len (rGr_open h).1
  obtain ⟨hM, hMd, hdm⟩ := slice_len (rGr_open h).2.1
  simp only [maxLen] at hcm hdm
  have hIM : I < M := by have := (List.getElem?_eq_some_iff.1 ho).1; omega
  obtain ⟨b, off, A2, cv, rfl, hb, x0, x1, x2, hvs, hb1, hb2⟩ := ob_at (rGr_open h).2.1 ho
  have hB1 : Below w.heap.size w ((w.alloc (.cells #[.slice A N c, .slice (some ⟨b, off, none⟩) M d, .slice C K e] 28)).alloc (.cells #[.int .i64 o.1, .int .i64 o.2.1, .slice A2 o.2.2.length cv] 38)) := ((Below.refl _ w).alloc (Nat.le_refl _) _).alloc (by simp) _
  have hB0 : Below w.heap.size w (w.alloc (.cells #[.slice A N c, .slice (some ⟨b, off, none⟩) M d, .slice C K e] 28)) := (Below.refl _ w).alloc (Nat.le_refl _) _
  obtain ⟨p1, p2⟩ := blk_two w 28 38 [.slice A N c, .slice (some ⟨b, off, none⟩) M d, .slice C K e] [.int .i64 o.1, .int .i64 o.2.1, .slice A2 o.2.2.length cv]
  have a1 := (Blk.new w 28 [.slice A N c, .slice (some ⟨b, off, none⟩) M d, .slice C K e]).cell (j := 1) rfl
  have y0 := (hB0.cell (p := ⟨b, off + I * 3, none⟩) hb).trans x0
  have y1 := (hB0.cell (p := ⟨b, off + I * 3 + 1, none⟩) hb).trans x1
  have y2 := (hB0.cell (p := ⟨b, off + I * 3 + 2, none⟩) hb).trans x2
  have hvl : o.2.2.length ≤ 9223372036854775807 := by have := (slice_len hvs).2; simp only [maxLen] at this; omega
  have hil : (I : Int) < (M : Int) := by omega
  have hi0 : (0 : Int) ≤ (I : Int) := Int.natCast_nonneg I
  have Hv : Hid (objB g (lstG g.2.1 I) o = (decide (0 ≤ o.1) && decide (o.1 ≤ 1073741824) && decide (lstG g.2.1 I < o.1) && (decide (0 ≤ o.2.1) && decide (o.2.1 < (N : Int))) && decide (o.2.2.length = (fldsG g.1 o.2.1).length))) := Lib.hid (by rw [← hN]; rfl)
  have HB1 := Lib.hid hB1
  -- the id ahead
  obtain ⟨pid, hpre⟩ : ∃ pid : Int, lstG g.2.1 I = pid ∧ ((I = 0 ∧ pid = -1) ∨ ∃ j, I = j + 1 ∧ w.cell? ⟨b, off + j * 3, none⟩ = some (.int .i64 pid)) := by
    cases I with
    | zero => exact ⟨-1, rfl, .inl ⟨rfl, rfl⟩⟩
    | succ j =>
      obtain ⟨p, hp⟩ : ∃ p, g.2.1[j]? = some p := ⟨_, List.getElem?_eq_getElem (by omega)⟩
      obtain ⟨b9, off9, A9, cv9, hbe, -, z0, -, -, -, -, -⟩ := ob_at (rGr_open h).2.1 hp
      injection hbe with hbe
      injection hbe with e1 e2
      subst e1 e2
      exact ⟨p.1, lst_at hp, .inr ⟨j, rfl, z0⟩⟩
  obtain ⟨hpid, hpre⟩ := hpre
  generalize objB g (lstG g.2.1 I) o = r at *
  rw [hpid] at Hv
  -- the type's fields
  have Hty : Hid (0 ≤ o.2.1 → o.2.1 < (N : Int) → ∃ (t bt offt : Nat) (AF : Option Addr) (cF : Nat), o.2.1 = (t : Int) ∧ A = some ⟨bt, offt, none⟩ ∧ bt < w.heap.size ∧ w.cell? ⟨bt, offt + t * 2 + 1, none⟩ = some (.slice AF (fldsG g.1 o.2.1).length cF)) := Lib.hid fun h1 h2 => by
    obtain ⟨t, ht⟩ : ∃ t : Nat, o.2.1 = (t : Int) := ⟨o.2.1.toNat, by omega⟩
    obtain ⟨ty, hty⟩ : ∃ ty, g.1[t]? = some ty := ⟨_, List.getElem?_eq_getElem (by omega)⟩
    obtain ⟨bt, offt, st, AF, cF, e, hbt, -, y1, -, -, -⟩ := typ_at (rGr_open h).1 hty
    exact ⟨t, bt, offt, AF, cF, ht, e, hbt, by rw [fldsG_at ht hty]; exact y1⟩
  have hMb : M ≤ 9223372036854775807 := by omega
  clear h ho hvs hB0 hpid hM hN hMd hNc
  generalize hfl : (fldsG g.1 o.2.1).length = fl at *
  clear hfl
  generalize o.2.2.length = vl at *
  generalize o.1 = n1 at *
  generalize o.2.1 = n2 at *
  go_enter Try.func57, Try.ntmps57
  go_wp2
  clear a1 y0 y1 y2
  generalize (w.alloc (.cells #[.slice A N c, .slice (some ⟨b, off, none⟩) M d, .slice C K e] 28)).alloc (.cells #[.int .i64 n1, .int .i64 n2, .slice A2 vl cv] 38) = w1 at *
  have HS := Lib.hid (fun (W : World) (hW : Below w1.heap.size w1 W) => And.intro ((p1.to hW).cell (j := 0) rfl) (And.intro ((p1.to hW).cell (j := 1) rfl) (And.intro ((p2.to hW).cell (j := 0) rfl) (And.intro ((p2.to hW).cell (j := 1) rfl) ((p2.to hW).cell (j := 2) rfl)))))
  by_cases c1 : n1 < 0
  · have k1 : decide (n1 < 0) = true := decide_eq_true c1
    have Hr : Hid (r = false) := Lib.hid (by rw [Hv.out, decide_eq_false (by omega : ¬ 0 ≤ n1)]; rfl)
    clear Hv c1
    go_wp2
    refine sch_start [(0, true), (1, true), (2, true), (3, true), (4, true), (5, true), (6, true), (7, true), (8, true), (9, true), (10, true), (11, true), (12, true), (13, true), (14, true), (15, true), (16, true), (17, true), (18, true), (19, true), (20, true), (21, true), (22, true), (23, true), (24, true), (25, true), (26, true), (27, true), (28, true), (29, true), (30, true), (31, true), (32, true), (33, true), (34, true), (35, true), (36, true), (37, true)] (fun W => Below w1.heap.size w1 W) (by kernel_rfl) rfl (by kernel_rfl) (fun _ _ _ _ _ h => h) (Below.refl _ w1).drew (fun hH => ?_)
    repeat (first | (refine sch_yes (v := ?_) rfl rfl ?_ hH ?_; rotate_left; (focus ((intro W hW; obtain ⟨s0, s1, s2, s3, s4⟩ := HS.out W hW; go_simp) <;> with_reducible rfl)); simp only [Act.put, List.setIfInBounds_toArray, List.set_cons_zero, List.set_cons_succ]) | (refine sch_no rfl rfl hH ?_; simp only [Act.put, List.setIfInBounds_toArray, List.set_cons_zero, List.set_cons_succ]))
    refine sch_done ?_
    have HD := Lib.hid (HB1.out.trans (hH.mono HB1.out.size))
    clear hH
    generalize w1.drew = w2 at *
    go_wp2
    go_ret
    exact ⟨by rw [Hr.out]; rfl, HD.out⟩
  have k1 : decide (n1 < 0) = false := decide_eq_false c1
  by_cases c2 : 1073741824 < n1
  · have k2 : decide (1073741824 < n1) = true := decide_eq_true c2
    have Hr : Hid (r = false) := Lib.hid (by rw [Hv.out, decide_eq_false (by omega : ¬ n1 ≤ 1073741824)]; simp)
    clear Hv c1 c2
    go_wp2
    refine sch_start [(0, true), (1, true), (2, true), (3, true), (4, true), (5, true), (6, true), (7, true), (8, true), (9, true), (10, true), (11, true), (12, true), (13, true), (14, true), (15, true), (16, true), (17, true), (18, true), (19, true), (20, true), (21, true), (22, true), (23, true), (24, true), (25, true), (26, true), (27, true), (28, true), (29, true), (30, true), (31, true), (32, true), (33, true), (34, true), (35, true), (36, true), (37, true)] (fun W => Below w1.heap.size w1 W) (by kernel_rfl) rfl (by kernel_rfl) (fun _ _ _ _ _ h => h) (Below.refl _ w1).drew (fun hH => ?_)
    repeat (first | (refine sch_yes (v := ?_) rfl rfl ?_ hH ?_; rotate_left; (focus ((intro W hW; obtain ⟨s0, s1, s2, s3, s4⟩ := HS.out W hW; go_simp) <;> with_reducible rfl)); simp only [Act.put, List.setIfInBounds_toArray, List.set_cons_zero, List.set_cons_succ]) | (refine sch_no rfl rfl hH ?_; simp only [Act.put, List.setIfInBounds_toArray, List.set_cons_zero, List.set_cons_succ]))
    refine sch_done ?_
    have HD := Lib.hid (HB1.out.trans (hH.mono HB1.out.size))
    clear hH
    generalize w1.drew = w2 at *
    go_wp2
    go_ret
    exact ⟨by rw [Hr.out]; rfl, HD.out⟩
  have k2 : decide (1073741824 < n1) = false := decide_eq_false c2
  have q1 : decide (0 ≤ n1) = true := decide_eq_true (by omega)
  have q2 : decide (n1 ≤ 1073741824) = true := decide_eq_true (by omega)
  rcases hpre with ⟨rfl, rfl⟩ | ⟨j, rfl, z0⟩
  · have q3 : decide ((-1 : Int) < n1) = true := decide_eq_true (by omega)
    by_cases c4 : n2 < 0
    · have k4 : decide (n2 < 0) = true := decide_eq_true c4
      have Hr : Hid (r = false) := Lib.hid (by rw [Hv.out, decide_eq_false (by omega : ¬ 0 ≤ n2)]; simp)
      clear Hv c1 c2 c4
      go_wp2
      refine sch_start [(0, true), (1, true), (2, true), (3, true), (4, true), (5, true), (6, true), (7, true), (8, true), (9, true), (10, true), (11, true), (12, true), (13, true), (14, true), (15, true), (16, true), (17, true), (18, true), (19, true), (20, true), (21, true), (22, true), (23, true), (24, true), (25, true), (26, true), (27, true), (28, true), (29, true), (30, true), (31, true), (32, true), (33, true), (34, true), (35, true), (36, true), (37, true)] (fun W => Below w1.heap.size w1 W) (by kernel_rfl) rfl (by kernel_rfl) (fun _ _ _ _ _ h => h) (Below.refl _ w1).drew (fun hH => ?_)
      repeat (first | (refine sch_yes (v := ?_) rfl rfl ?_ hH ?_; rotate_left; (focus ((intro W hW; obtain ⟨s0, s1, s2, s3, s4⟩ := HS.out W hW; go_simp) <;> with_reducible rfl)); simp only [Act.put, List.setIfInBounds_toArray, List.set_cons_zero, List.set_cons_succ]) | (refine sch_no rfl rfl hH ?_; simp only [Act.put, List.setIfInBounds_toArray, List.set_cons_zero, List.set_cons_succ]))
      refine sch_done ?_
      have HD := Lib.hid (HB1.out.trans (hH.mono HB1.out.size))
      clear hH
      generalize w1.drew = w2 at *
      go_wp2
      go_ret
      exact ⟨by rw [Hr.out]; rfl, HD.out⟩
    have k4 : decide (n2 < 0) = false := decide_eq_false c4
    by_cases c5 : (N : Int) ≤ n2
    · have k5 : decide ((N : Int) ≤ n2) = true := decide_eq_true c5
      have Hr : Hid (r = false) := Lib.hid (by rw [Hv.out, decide_eq_false (by omega : ¬ n2 < (N : Int))]; simp)
      clear Hv c1 c2 c4 c5
      go_wp2
      refine sch_start [(0, true), (1, true), (2, true), (3, true), (4, true), (5, true), (6, true), (7, true), (8, true), (9, true), (10, true), (11, true), (12, true), (13, true), (14, true), (15, true), (16, true), (17, true), (18, true), (19, true), (20, true), (21, true), (22, true), (23, true), (24, true), (25, true), (26, true), (27, true), (28, true), (29, true), (30, true), (31, true), (32, true), (33, true), (34, true), (35, true), (36, true), (37, true)] (fun W => Below w1.heap.size w1 W) (by kernel_rfl) rfl (by kernel_rfl) (fun _ _ _ _ _ h => h) (Below.refl _ w1).drew (fun hH => ?_)
      repeat (first | (refine sch_yes (v := ?_) rfl rfl ?_ hH ?_; rotate_left; (focus ((intro W hW; obtain ⟨s0, s1, s2, s3, s4⟩ := HS.out W hW; go_simp) <;> with_reducible rfl)); simp only [Act.put, List.setIfInBounds_toArray, List.set_cons_zero, List.set_cons_succ]) | (refine sch_no rfl rfl hH ?_; simp only [Act.put, List.setIfInBounds_toArray, List.set_cons_zero, List.set_cons_succ]))
      refine sch_done ?_
      have HD := Lib.hid (HB1.out.trans (hH.mono HB1.out.size))
      clear hH
      generalize w1.drew = w2 at *
      go_wp2
      go_ret
      exact ⟨by rw [Hr.out]; rfl, HD.out⟩
    have k5 : decide ((N : Int) ≤ n2) = false := decide_eq_false c5
    obtain ⟨t, bt, offt, AF, cF, rfl, rfl, hbt, ty1⟩ := Hty.out (by omega) (by omega)
    have k5' : decide (N ≤ t) = false := decide_eq_false (by omega)
    have hr : r = decide (vl = fl) := by rw [Hv.out, q1, q2, q3, decide_eq_true (by omega : (0 : Int) ≤ (t : Int)), decide_eq_true (by omega : (t : Int) < (N : Int))]; rfl
    have htl : (t : Int) < (N : Int) := by omega
    have ht0 : (0 : Int) ≤ (t : Int) := Int.natCast_nonneg t
    have hvf : ((vl : Int) == (fl : Int)) = decide (vl = fl) := by by_cases hh : vl = fl <;> simp [hh] <;> omega
    have HS2 := Lib.hid (fun (W : World) (hW : Below w1.heap.size w1 W) => And.intro (HS.out W hW) (((HB1.out.trans (hW.mono HB1.out.size)).cell (p := ⟨bt, offt + t * 2 + 1, none⟩) hbt).trans ty1))
    have Hr := Lib.hid hr
    clear Hv c1 c2 c4 c5 hr Hty
    generalize decide (vl = fl) = rr at *
    go_wp2
    refine sch_start [(0, true), (1, true), (2, true), (3, true), (4, true), (5, true), (6, true), (7, true), (8, true), (9, true), (10, true), (11, true), (12, true), (13, true), (14, true), (15, true), (16, true), (17, true), (18, true), (19, true), (20, true), (21, true), (22, true), (23, true), (24, true), (25, true), (26, true), (27, true), (28, true), (29, true), (30, true), (31, true), (32, true), (33, true), (34, true), (35, true), (36, true), (37, true)] (fun W => Below w1.heap.size w1 W) (by kernel_rfl) rfl (by kernel_rfl) (fun _ _ _ _ _ h => h) (Below.refl _ w1).drew (fun hH => ?_)
    repeat (first | (refine sch_yes (v := ?_) rfl rfl ?_ hH ?_; rotate_left; (focus ((intro W hW; obtain ⟨s0, s1, s2, s3, s4⟩ := HS.out W hW; go_simp) <;> with_reducible rfl)); simp only [Act.put, List.setIfInBounds_toArray, List.set_cons_zero, List.set_cons_succ]) | (refine sch_no rfl rfl hH ?_; simp only [Act.put, List.setIfInBounds_toArray, List.set_cons_zero, List.set_cons_succ]))
    refine sch_done ?_
    have HD := Lib.hid (HB1.out.trans (hH.mono HB1.out.size))
    have HC := Lib.hid hH
    clear hH
    generalize w1.drew = w2 at *
    have HS3 := Lib.hid (fun (W : World) (hW : Below w2.heap.size w2 W) => HS2.out W (HC.out.trans (hW.mono HC.out.size)))
    go_wp2
    refine sch_start [(0, true), (1, true), (2, true), (3, true), (4, true), (5, true), (6, true), (7, true), (8, true), (9, true), (10, true), (11, true), (12, true), (13, true)] (fun W => Below w2.heap.size w2 W) (by kernel_rfl) rfl (by kernel_rfl) (fun _ _ _ _ _ h => h) (Below.refl _ w2).drew (fun hH => ?_)
    repeat (first | (refine sch_yes (v := ?_) rfl rfl ?_ hH ?_; rotate_left; (focus ((intro W hW; obtain ⟨⟨s0, s1, s2, s3, s4⟩, s5⟩ := HS3.out W hW; go_simp) <;> with_reducible rfl)); simp only [Act.put, List.setIfInBounds_toArray, List.set_cons_zero, List.set_cons_succ]) | (refine sch_no rfl rfl hH ?_; simp only [Act.put, List.setIfInBounds_toArray, List.set_cons_zero, List.set_cons_succ]))
    refine sch_done ?_
    have HE := Lib.hid (HD.out.trans (hH.mono HD.out.size))
    clear hH
    go_wp2
    go_ret
    exact ⟨by rw [Hr.out]; rfl, HE.out⟩
  · have e1 : IntKind.i64.wrap (j : Int) = (j : Int) := IntWalk.i64_in _ (by omega)
    have e2 : decide ((0 : Int) < ((j + 1 : Nat) : Int)) = true := decide_eq_true (by omega)
    have e3 : (j : Int) < (M : Int) := by omega
    have e4 : (0 : Int) ≤ (j : Int) := Int.natCast_nonneg j
    replace HS := Lib.hid (fun (W : World) (hW : Below w1.heap.size w1 W) => (show _ ∧ _ ∧ _ ∧ _ ∧ _ from HS.out W hW))
    have Hz := Lib.hid (fun (W : World) (hW : Below w1.heap.size w1 W) => ((HB1.out.trans (hW.mono HB1.out.size)).cell (p := ⟨b, off + j * 3, none⟩) hb).trans z0)
    by_cases c3 : n1 ≤ pid
    · have k3 : decide (n1 ≤ pid) = true := decide_eq_true c3
      have Hr : Hid (r = false) := Lib.hid (by rw [Hv.out, decide_eq_false (by omega : ¬ pid < n1)]; simp)
      clear Hv c1 c2 c3
      go_wp2
      refine sch_start [(0, true), (1, true), (2, true), (3, true), (4, true), (5, true), (6, true), (7, true), (8, true), (9, true), (10, true), (11, true), (12, true), (13, true), (14, true), (15, true), (16, true), (17, true), (18, true), (19, true), (20, true), (21, true), (22, true), (23, true), (24, true), (25, true), (26, true), (27, true), (28, true), (29, true), (30, true), (31, true), (32, true), (33, true), (34, true), (35, true), (36, true), (37, true)] (fun W => Below w1.heap.size w1 W) (by kernel_rfl) rfl (by kernel_rfl) (fun _ _ _ _ _ h => h) (Below.refl _ w1).drew (fun hH => ?_)
      repeat (first | (refine sch_yes (v := ?_) rfl rfl ?_ hH ?_; rotate_left; (focus ((intro W hW; obtain ⟨s0, s1, s2, s3, s4⟩ := HS.out W hW; have s6 := Hz.out W hW; go_simp) <;> with_reducible rfl)); simp only [Act.put, List.setIfInBounds_toArray, List.set_cons_zero, List.set_cons_succ]) | (refine sch_no rfl rfl hH ?_; simp only [Act.put, List.setIfInBounds_toArray, List.set_cons_zero, List.set_cons_succ]))
      refine sch_done ?_
      have HD := Lib.hid (HB1.out.trans (hH.mono HB1.out.size))
      clear hH
      generalize w1.drew = w2 at *
      go_wp2
      go_ret
      exact ⟨by rw [Hr.out]; rfl, HD.out⟩
    have k3 : decide (n1 ≤ pid) = false := decide_eq_false c3
    have q3 : decide (pid < n1) = true := decide_eq_true (by omega)
    clear c3
    by_cases c4 : n2 < 0
    · have k4 : decide (n2 < 0) = true := decide_eq_true c4
      have Hr : Hid (r = false) := Lib.hid (by rw [Hv.out, decide_eq_false (by omega : ¬ 0 ≤ n2)]; simp)
      clear Hv c1 c2 c4
      go_wp2
      refine sch_start [(0, true), (1, true), (2, true), (3, true), (4, true), (5, true), (6, true), (7, true), (8, true), (9, true), (10, true), (11, true), (12, true), (13, true), (14, true), (15, true), (16, true), (17, true), (18, true), (19, true), (20, true), (21, true), (22, true), (23, true), (24, true), (25, true), (26, true), (27, true), (28, true), (29, true), (30, true), (31, true), (32, true), (33, true), (34, true), (35, true), (36, true), (37, true)] (fun W => Below w1.heap.size w1 W) (by kernel_rfl) rfl (by kernel_rfl) (fun _ _ _ _ _ h => h) (Below.refl _ w1).drew (fun hH => ?_)
      repeat (first | (refine sch_yes (v := ?_) rfl rfl ?_ hH ?_; rotate_left; (focus ((intro W hW; obtain ⟨s0, s1, s2, s3, s4⟩ := HS.out W hW; have s6 := Hz.out W hW; go_simp) <;> with_reducible rfl)); simp only [Act.put, List.setIfInBounds_toArray, List.set_cons_zero, List.set_cons_succ]) | (refine sch_no rfl rfl hH ?_; simp only [Act.put, List.setIfInBounds_toArray, List.set_cons_zero, List.set_cons_succ]))
      refine sch_done ?_
      have HD := Lib.hid (HB1.out.trans (hH.mono HB1.out.size))
      clear hH
      generalize w1.drew = w2 at *
      go_wp2
      go_ret
      exact ⟨by rw [Hr.out]; rfl, HD.out⟩
    have k4 : decide (n2 < 0) = false := decide_eq_false c4
    by_cases c5 : (N : Int) ≤ n2
    · have k5 : decide ((N : Int) ≤ n2) = true := decide_eq_true c5
      have Hr : Hid (r = false) := Lib.hid (by rw [Hv.out, decide_eq_false (by omega : ¬ n2 < (N : Int))]; simp)
      clear Hv c1 c2 c4 c5
      go_wp2
      refine sch_start [(0, true), (1, true), (2, true), (3, true), (4, true), (5, true), (6, true), (7, true), (8, true), (9, true), (10, true), (11, true), (12, true), (13, true), (14, true), (15, true), (16, true), (17, true), (18, true), (19, true), (20, true), (21, true), (22, true), (23, true), (24, true), (25, true), (26, true), (27, true), (28, true), (29, true), (30, true), (31, true), (32, true), (33, true), (34, true), (35, true), (36, true), (37, true)] (fun W => Below w1.heap.size w1 W) (by kernel_rfl) rfl (by kernel_rfl) (fun _ _ _ _ _ h => h) (Below.refl _ w1).drew (fun hH => ?_)
      repeat (first | (refine sch_yes (v := ?_) rfl rfl ?_ hH ?_; rotate_left; (focus ((intro W hW; obtain ⟨s0, s1, s2, s3, s4⟩ := HS.out W hW; have s6 := Hz.out W hW; go_simp) <;> with_reducible rfl)); simp only [Act.put, List.setIfInBounds_toArray, List.set_cons_zero, List.set_cons_succ]) | (refine sch_no rfl rfl hH ?_; simp only [Act.put, List.setIfInBounds_toArray, List.set_cons_zero, List.set_cons_succ]))
      refine sch_done ?_
      have HD := Lib.hid (HB1.out.trans (hH.mono HB1.out.size))
      clear hH
      generalize w1.drew = w2 at *
      go_wp2
      go_ret
      exact ⟨by rw [Hr.out]; rfl, HD.out⟩
    have k5 : decide ((N : Int) ≤ n2) = false := decide_eq_false c5
    obtain ⟨t, bt, offt, AF, cF, rfl, rfl, hbt, ty1⟩ := Hty.out (by omega) (by omega)
    have k5' : decide (N ≤ t) = false := decide_eq_false (by omega)
    have hr : r = decide (vl = fl) := by rw [Hv.out, q1, q2, q3, decide_eq_true (by omega : (0 : Int) ≤ (t : Int)), decide_eq_true (by omega : (t : Int) < (N : Int))]; rfl
    have htl : (t : Int) < (N : Int) := by omega
    have ht0 : (0 : Int) ≤ (t : Int) := Int.natCast_nonneg t
    have hvf : ((vl : Int) == (fl : Int)) = decide (vl = fl) := by by_cases hh : vl = fl <;> simp [hh] <;> omega
    have HS2 := Lib.hid (fun (W : World) (hW : Below w1.heap.size w1 W) => And.intro (HS.out W hW) (((HB1.out.trans (hW.mono HB1.out.size)).cell (p := ⟨bt, offt + t * 2 + 1, none⟩) hbt).trans ty1))
    have Hr := Lib.hid hr
    clear Hv c1 c2 c4 c5 hr Hty
    generalize decide (vl = fl) = rr at *
    go_wp2
    refine sch_start [(0, true), (1, true), (2, true), (3, true), (4, true), (5, true), (6, true), (7, true), (8, true), (9, true), (10, true), (11, true), (12, true), (13, true), (14, true), (15, true), (16, true), (17, true), (18, true), (19, true), (20, true), (21, true), (22, true), (23, true), (24, true), (25, true), (26, true), (27, true), (28, true), (29, true), (30, true), (31, true), (32, true), (33, true), (34, true), (35, true), (36, true), (37, true)] (fun W => Below w1.heap.size w1 W) (by kernel_rfl) rfl (by kernel_rfl) (fun _ _ _ _ _ h => h) (Below.refl _ w1).drew (fun hH => ?_)
    repeat (first | (refine sch_yes (v := ?_) rfl rfl ?_ hH ?_; rotate_left; (focus ((intro W hW; obtain ⟨s0, s1, s2, s3, s4⟩ := HS.out W hW; have s6 := Hz.out W hW; go_simp) <;> with_reducible rfl)); simp only [Act.put, List.setIfInBounds_toArray, List.set_cons_zero, List.set_cons_succ]) | (refine sch_no rfl rfl hH ?_; simp only [Act.put, List.setIfInBounds_toArray, List.set_cons_zero, List.set_cons_succ]))
    refine sch_done ?_
    have HD := Lib.hid (HB1.out.trans (hH.mono HB1.out.size))
    have HC := Lib.hid hH
    clear hH
    generalize w1.drew = w2 at *
    have HS3 := Lib.hid (fun (W : World) (hW : Below w2.heap.size w2 W) => HS2.out W (HC.out.trans (hW.mono HC.out.size)))
    go_wp2
    refine sch_start [(0, true), (1, true), (2, true), (3, true), (4, true), (5, true), (6, true), (7, true), (8, true), (9, true), (10, true), (11, true), (12, true), (13, true)] (fun W => Below w2.heap.size w2 W) (by kernel_rfl) rfl (by kernel_rfl) (fun _ _ _ _ _ h => h) (Below.refl _ w2).drew (fun hH => ?_)
    repeat (first | (refine sch_yes (v := ?_) rfl rfl ?_ hH ?_; rotate_left; (focus ((intro W hW; obtain ⟨⟨s0, s1, s2, s3, s4⟩, s5⟩ := HS3.out W hW; go_simp) <;> with_reducible rfl)); simp only [Act.put, List.setIfInBounds_toArray, List.set_cons_zero, List.set_cons_succ]) | (refine sch_no rfl rfl hH ?_; simp only [Act.put, List.setIfInBounds_toArray, List.set_cons_zero, List.set_cons_succ]))
    refine sch_done ?_
    have HE := Lib.hid (HD.out.trans (hH.mono HD.out.size))
    clear hH
    go_wp2
    go_ret
    exact ⟨by rw [Hr.out]; rfl, HE.out⟩
end Go.Proofs.Yteafbdebmhpffaa
