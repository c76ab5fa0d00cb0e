/- The texts GrRef1, GrMayPlain, GrRef2, GrRef7 in one; what each proves, and its conditions, stands before it. -/
import Derived.Test.YtembafogbfcajaaGrRefS
import Derived.Test.YtembafogbfcajaaGrHave
import Derived.Test.YtembafogbfcajaaVlRefFitsAll
import Derived.Test.YtembafogbfcajaaScRef1
import Derived.Test.YtembafogbfcajaaSched
import Derived.Test.YtembafogbfcajaaGrRoot
import Derived.Test.YtembafogbfcajaaGrReach
import Derived.Test.YtembafogbfcajaaRets
import Derived.Test.YtembafogbfcajaaRets0
/- The contracts of the document's own leads and object (layer 8). Nothing that was there is changed. No condition but that the object's place is one. -/
namespace Go.Proofs.Ytembafogbfcajaa
open Go.RowKit

set_option maxRecDepth 100000 in
set_option maxHeartbeats 2000000 in
theorem rleads_any (A B C : Option Addr) (N c M d K e : Nat) (g : Gr) (x y s : ByteArray) (f : Fld) (v : Vl) (w : World) (h : rGr (All w) w [.slice A N c, .slice B M d, .slice C K e] g) (hy : byt y = f.2.2) (hs : byt s = v.2.1) :
    Calls Try.prog 40 #[.agg #[.slice A N c, .slice B M d, .slice C K e], .agg #[.string x, .int .i64 f.2.1, .string y], .agg #[.int .i64 v.1, .string s, .int .i64 v.2.2]] w fun e w' => e = .returned (.bool (haveG g f v)) ∧ Below w.heap.size w w' := by
  have hB0 : Below w.heap.size w (((w.alloc (.cells #[.slice A N c, .slice B M d, .slice C K e] 28)).alloc (.cells #[.string x, .int .i64 f.2.1, .string y] 51)).alloc (.cells #[.int .i64 v.1, .string s, .int .i64 v.2.2] 30)) :=
    (((Below.refl _ w).alloc (Nat.le_refl _) _).alloc (by simp) _).alloc (by simp; omega) _
  obtain ⟨p1, p2, p3⟩ := blk_three w 28 51 30 [.slice A N c, .slice B M d, .slice C K e] [.string x, .int .i64 f.2.1, .string y] [.int .i64 v.1, .string s, .int .i64 v.2.2]
  have T1 := Lib.hid (fun W => rvlfits_any x y s f.2.1 v.1 v.2.2 W)
  have T2 := Lib.hid (fun W (hW : Below w.heap.size w W) => rgfind_any A B C N c M d K e g v.2.2 W (gr_below hW h))
  have T3 := Lib.hid (fun W (hW : Below w.heap.size w W) => rfind_any A N c g.1 y W (sch_below hW (rGr_open h).1))
  rw [hy] at T3
  rw [show (v.1, byt s, v.2.2) = v by rw [hs]] at T1
  have Ho := Lib.hid (fun W (hW : Below w.heap.size w W) => (rGr_open (gr_below hW h)).2.1)
  obtain ⟨hM, hMd, hdm⟩ := slice_len (rGr_open h).2.1
  simp only [maxLen] at hdm
  have Hv : Hid (haveG g f v = (fitsV f.2.1 v && (decide (f.2.1 ≠ 5) || decide (v.2.2 = -1) || (decide (findG g.2.1 v.2.2 ≠ -1) && decide (typG g.2.1 v.2.2 = findS g.1 f.2.2))))) := Lib.hid rfl
  clear h hs hy
  have Hf := Lib.hid (fun h => findG_at (os := g.2.1) (id := v.2.2) h)
  generalize haveG g f v = r at *
  generalize fitsV f.2.1 v = m1 at *
  generalize findG g.2.1 v.2.2 = q at *
  generalize typG g.2.1 v.2.2 = ty at *
  generalize findS g.1 f.2.2 = q2 at *
  generalize f.2.1 = k at *
  generalize v.1 = n1 at *
  generalize v.2.2 = n2 at *
  have HB0 := Lib.hid hB0
  clear hB0
  go_enter Try.func40, Try.ntmps40
  go_wp2_with fail
  refine (T1.out _).mono ?_
  rintro e w1 ⟨rfl, hB1⟩
  have H1 := Lib.hid (HB0.out.trans (hB1.mono HB0.out.size))
  cases m1
  · go_wp2
    go_ret
    exact ⟨by rw [Hv.out]; rfl, H1.out⟩
  replace p1 := p1.to hB1
  replace p2 := p2.to hB1
  replace p3 := p3.to hB1
  clear hB1 HB0 T1
  have c1 := p2.cell (j := 1) rfl
  have c2 := p3.cell (j := 2) rfl
  by_cases h5 : k = 5
  · have h5' : (k != 5) = false := by simp [h5]
    by_cases hm : n2 = -1
    · have hm' : (n2 == -1) = true := by simp [hm]
      have Hr : Hid (r = true) := Lib.hid (by rw [Hv.out]; simp [hm])
      clear Hv hm h5
      go_wp2
      go_ret
      exact ⟨by rw [Hr.out]; rfl, H1.out⟩
    · have hm' : (n2 == -1) = false := by simp [hm]
      have Hr : Hid (r = (decide (q ≠ -1) && decide (ty = q2))) := Lib.hid (by rw [Hv.out]; simp [hm, h5])
      clear Hv hm h5
      have c3 := p1.cell (j := 0) rfl
      have c4 := p1.cell (j := 1) rfl
      have c5 := p1.cell (j := 2) rfl
      go_wp2_with fail
      refine (T2.out _ H1.out).mono ?_
      rintro e w2 ⟨rfl, hB2⟩
      have H2 := Lib.hid (H1.out.trans (hB2.mono H1.out.size))
      replace p1 := p1.to hB2
      replace p2 := p2.to hB2
      replace p3 := p3.to hB2
      clear hB2 c1 c2 c3 c4 c5 H1
      have c2 := p2.cell (j := 2) rfl
      have c3 := p1.cell (j := 0) rfl
      have c4 := p1.cell (j := 1) rfl
      by_cases hq : q = -1
      · subst hq
        have Hr2 : Hid (r = false) := Lib.hid (by rw [Hr.out]; rfl)
        go_wp2
        refine sch_start [(0, true), (1, true), (2, true), (3, true), (4, true), (5, true), (6, true), (7, true), (8, true), (9, true), (10, true), (11, true), (12, true), (13, false), (14, true), (15, true), (16, true)]
          (fun _ => True) (by kernel_rfl) rfl (by kernel_rfl) (fun _ _ _ _ _ h => h) trivial (fun hH => ?_)
        repeat (first | (refine sch_yes (v := ?_) rfl rfl ?_ hH ?_; rotate_left; (focus ((intro W hW; go_simp) <;> with_reducible rfl)); simp only [Act.put, List.setIfInBounds_toArray, List.set_cons_zero, List.set_cons_succ]) | (refine sch_no rfl rfl hH ?_; simp only [Act.put, List.setIfInBounds_toArray, List.set_cons_zero, List.set_cons_succ]))
        refine sch_call_no rfl rfl hH ?_
        repeat (first | (refine sch_yes (v := ?_) rfl rfl ?_ hH ?_; rotate_left; (focus ((intro W hW; go_simp) <;> with_reducible rfl)); simp only [Act.put, List.setIfInBounds_toArray, List.set_cons_zero, List.set_cons_succ]) | (refine sch_no rfl rfl hH ?_; simp only [Act.put, List.setIfInBounds_toArray, List.set_cons_zero, List.set_cons_succ]))
        refine sch_done ?_
        clear hH
        go_wp2
        go_ret
        exact ⟨by rw [Hr2.out]; rfl, H2.out.drew⟩
      · obtain ⟨i, o, hi, ho, -, hty⟩ := Hf.out hq
        obtain ⟨b, off, A2, c2', rfl, hb, -, hx2, -, -, -, -⟩ := ob_at (Ho.out _ H2.out) ho
        have hlt := (List.getElem?_eq_some_iff.1 ho).1
        subst hi
        have hq' : decide ((0 : Int) ≤ (i : Int)) = true := decide_eq_true (Int.natCast_nonneg i)
        rw [← hty] at hx2
        have hil : (i : Int) < (M : Int) := by omega
        have hi0 : (0 : Int) ≤ (i : Int) := by omega
        have hR2 := Hr.out
        rw [decide_eq_true hq, Bool.true_and] at hR2
        have Hr2 := Lib.hid hR2
        clear hR2 Hr Hf hty ho hq hlt
        have HB2 := Lib.hid (Below.refl w2.heap.size w2)
        have S0 : w2.cell? ⟨w.heap.size + 1, 2, none⟩ = some (.string y) ∧ w2.cell? ⟨w.heap.size, 0, none⟩ = some (.slice A N c) ∧ w2.cell? ⟨w.heap.size, 1, none⟩ = some (.slice (some ⟨b, off, none⟩) M d) ∧ w2.cell? ⟨b, off + i * 3 + 1, none⟩ = some (.int .i64 ty) := ⟨c2, c3, c4, hx2⟩
        have l1 := p1.lt
        have l2 := p2.lt
        clear c2 c3 c4 hx2
        go_wp2
        refine sch_start [(0, true), (1, true), (2, true), (3, true), (4, true), (5, true), (6, true), (7, true), (8, true), (9, true), (10, true), (11, true), (12, true), (13, false), (14, true), (15, true), (16, true)]
          (fun W => W.cell? ⟨w.heap.size + 1, 2, none⟩ = some (.string y) ∧ W.cell? ⟨w.heap.size, 0, none⟩ = some (.slice A N c) ∧ W.cell? ⟨w.heap.size, 1, none⟩ = some (.slice (some ⟨b, off, none⟩) M d) ∧ W.cell? ⟨b, off + i * 3 + 1, none⟩ = some (.int .i64 ty)) (by kernel_rfl) rfl (by kernel_rfl) (fun _ _ _ _ _ h => h) S0 (fun hH => ?_)
        repeat (first | (refine sch_yes (v := ?_) rfl rfl ?_ hH ?_; rotate_left; (focus ((rintro W ⟨hW1, hW2, hW3, hW4⟩; go_simp) <;> with_reducible rfl)); simp only [Act.put, List.setIfInBounds_toArray, List.set_cons_zero, List.set_cons_succ]) | (refine sch_no rfl rfl hH ?_; simp only [Act.put, List.setIfInBounds_toArray, List.set_cons_zero, List.set_cons_succ]))
        refine sch_call rfl rfl (fun K hK => ?_)
        go_wp2_with (go_at_call 70; refine (T3.out _ H2.out.drew).mono ?_; rintro e w8 ⟨rfl, hC8⟩)
        have hC9 : Below w2.heap.size w2 w8 := (Below.refl w2.heap.size w2).drew.trans hC8
        have hH8 := And.intro ((hC9.cell (p := ⟨w.heap.size + 1, 2, none⟩) l2).trans S0.1) (And.intro ((hC9.cell (p := ⟨w.heap.size, 0, none⟩) l1).trans S0.2.1) (And.intro ((hC9.cell (p := ⟨w.heap.size, 1, none⟩) l1).trans S0.2.2.1) ((hC9.cell (p := ⟨b, off + i * 3 + 1, none⟩) hb).trans S0.2.2.2)))
        refine hK.out _ _ hH8 ?_
        clear hK hH
        have hH := hH8
        repeat (first | (refine sch_yes (v := ?_) rfl rfl ?_ hH ?_; rotate_left; (focus ((rintro W ⟨hW1, hW2, hW3, hW4⟩; go_simp) <;> with_reducible rfl)); simp only [Act.put, List.setIfInBounds_toArray, List.set_cons_zero, List.set_cons_succ]) | (refine sch_no rfl rfl hH ?_; simp only [Act.put, List.setIfInBounds_toArray, List.set_cons_zero, List.set_cons_succ]))
        refine sch_done ?_
        clear hH hH8
        go_wp2
        go_ret
        exact ⟨by rw [Hr2.out]; rfl, H2.out.trans (hC9.mono H2.out.size)⟩
  · have h5' : (k != 5) = true := by simp [h5]
    have Hr : Hid (r = true) := Lib.hid (by rw [Hv.out]; simp [h5])
    clear Hv h5
    go_wp2
    go_ret
    exact ⟨by rw [Hr.out]; rfl, H1.out⟩

/-- What the document asks of the object at a place, behind one of the id lst, but where its Refs lead. -/
def objB (g : Gr) (lst : Int) (o : Ob) : Bool := decide (0 ≤ o.1) && decide (o.1 ≤ 1073741824) && decide (lst < o.1) && (decide (0 ≤ o.2.1) && decide (o.2.1 < (g.1.length : Int))) && decide (o.2.2.length = (fldsG g.1 o.2.1).length)
/-- The id ahead of a place. -/
def lstG (os : List Ob) : Nat → Int
  | 0 => -1
  | j + 1 => (os.getD j (0, 0, [])).1
theorem lst_at {os : List Ob} {j : Nat} {p : Ob} (h : os[j]? = some p) : lstG os (j + 1) = p.1 := by
  rw [lstG, List.getD_eq_getElem?_getD, h]; rfl

set_option maxRecDepth 100000 in
set_option maxHeartbeats 2000000 in
theorem robject_any (A B C : Option Addr) (N c M d K e : Nat) (g : Gr) (I : Nat) (o : Ob) (w : World) (h : rGr (All w) w [.slice A N c, .slice B M d, .slice C K e] g) (ho : g.2.1[I]? = some o) :
    Calls Try.prog 49 #[.agg #[.slice A N c, .slice B M d, .slice C K e], .int .i64 (I : Int)] w fun e w' => e = .returned (.bool (objB g (lstG g.2.1 I) o)) ∧ Below w.heap.size w w' := by
  obtain ⟨hN, hNc, hcm⟩ := slice_len (rGr_open h).1
  obtain ⟨hM, hMd, hdm⟩ := slice_len (rGr_open h).2.1
  simp only [maxLen] at hcm hdm
  have hIM : I < M := by have := (List.getElem?_eq_some_iff.1 ho).1; omega
  obtain ⟨b, off, A2, cv, rfl, hb, x0, x1, x2, hvs, hb1, hb2⟩ := ob_at (rGr_open h).2.1 ho
  have hB1 : Below w.heap.size w ((w.alloc (.cells #[.slice A N c, .slice (some ⟨b, off, none⟩) M d, .slice C K e] 28)).alloc (.cells #[.int .i64 o.1, .int .i64 o.2.1, .slice A2 o.2.2.length cv] 49)) := ((Below.refl _ w).alloc (Nat.le_refl _) _).alloc (by simp) _
  have hB0 : Below w.heap.size w (w.alloc (.cells #[.slice A N c, .slice (some ⟨b, off, none⟩) M d, .slice C K e] 28)) := (Below.refl _ w).alloc (Nat.le_refl _) _
  obtain ⟨p1, p2⟩ := blk_two w 28 49 [.slice A N c, .slice (some ⟨b, off, none⟩) M d, .slice C K e] [.int .i64 o.1, .int .i64 o.2.1, .slice A2 o.2.2.length cv]
  have a1 := (Blk.new w 28 [.slice A N c, .slice (some ⟨b, off, none⟩) M d, .slice C K e]).cell (j := 1) rfl
  have y0 := (hB0.cell (p := ⟨b, off + I * 3, none⟩) hb).trans x0
  have y1 := (hB0.cell (p := ⟨b, off + I * 3 + 1, none⟩) hb).trans x1
  have y2 := (hB0.cell (p := ⟨b, off + I * 3 + 2, none⟩) hb).trans x2
  have hvl : o.2.2.length ≤ 9223372036854775807 := by have := (slice_len hvs).2; simp only [maxLen] at this; omega
  have hil : (I : Int) < (M : Int) := by omega
  have hi0 : (0 : Int) ≤ (I : Int) := Int.natCast_nonneg I
  have Hv : Hid (objB g (lstG g.2.1 I) o = (decide (0 ≤ o.1) && decide (o.1 ≤ 1073741824) && decide (lstG g.2.1 I < o.1) && (decide (0 ≤ o.2.1) && decide (o.2.1 < (N : Int))) && decide (o.2.2.length = (fldsG g.1 o.2.1).length))) := Lib.hid (by rw [← hN]; rfl)
  have HB1 := Lib.hid hB1
  -- the id ahead
  obtain ⟨pid, hpre⟩ : ∃ pid : Int, lstG g.2.1 I = pid ∧ ((I = 0 ∧ pid = -1) ∨ ∃ j, I = j + 1 ∧ w.cell? ⟨b, off + j * 3, none⟩ = some (.int .i64 pid)) := by
    cases I with
    | zero => exact ⟨-1, rfl, .inl ⟨rfl, rfl⟩⟩
    | succ j =>
      obtain ⟨p, hp⟩ : ∃ p, g.2.1[j]? = some p := ⟨_, List.getElem?_eq_getElem (by omega)⟩
      obtain ⟨b9, off9, A9, cv9, hbe, -, z0, -, -, -, -, -⟩ := ob_at (rGr_open h).2.1 hp
      injection hbe with hbe
      injection hbe with e1 e2
      subst e1 e2
      exact ⟨p.1, lst_at hp, .inr ⟨j, rfl, z0⟩⟩
  obtain ⟨hpid, hpre⟩ := hpre
  generalize objB g (lstG g.2.1 I) o = r at *
  rw [hpid] at Hv
  -- the type's fields
  have Hty : Hid (0 ≤ o.2.1 → o.2.1 < (N : Int) → ∃ (t bt offt : Nat) (AF : Option Addr) (cF : Nat), o.2.1 = (t : Int) ∧ A = some ⟨bt, offt, none⟩ ∧ bt < w.heap.size ∧ w.cell? ⟨bt, offt + t * 2 + 1, none⟩ = some (.slice AF (fldsG g.1 o.2.1).length cF)) := Lib.hid fun h1 h2 => by
    obtain ⟨t, ht⟩ : ∃ t : Nat, o.2.1 = (t : Int) := ⟨o.2.1.toNat, by omega⟩
    obtain ⟨ty, hty⟩ : ∃ ty, g.1[t]? = some ty := ⟨_, List.getElem?_eq_getElem (by omega)⟩
    obtain ⟨bt, offt, st, AF, cF, e, hbt, -, y1, -, -, -⟩ := typ_at (rGr_open h).1 hty
    exact ⟨t, bt, offt, AF, cF, ht, e, hbt, by rw [fldsG_at ht hty]; exact y1⟩
  have hMb : M ≤ 9223372036854775807 := by omega
  clear h ho hvs hB0 hpid hM hN hMd hNc
  generalize hfl : (fldsG g.1 o.2.1).length = fl at *
  clear hfl
  generalize o.2.2.length = vl at *
  generalize o.1 = n1 at *
  generalize o.2.1 = n2 at *
  go_enter Try.func49, Try.ntmps49
  go_wp2
  clear a1 y0 y1 y2
  generalize (w.alloc (.cells #[.slice A N c, .slice (some ⟨b, off, none⟩) M d, .slice C K e] 28)).alloc (.cells #[.int .i64 n1, .int .i64 n2, .slice A2 vl cv] 49) = w1 at *
  have HS := Lib.hid (fun (W : World) (hW : Below w1.heap.size w1 W) => And.intro ((p1.to hW).cell (j := 0) rfl) (And.intro ((p1.to hW).cell (j := 1) rfl) (And.intro ((p2.to hW).cell (j := 0) rfl) (And.intro ((p2.to hW).cell (j := 1) rfl) ((p2.to hW).cell (j := 2) rfl)))))
  by_cases c1 : n1 < 0
  · have k1 : decide (n1 < 0) = true := decide_eq_true c1
    have Hr : Hid (r = false) := Lib.hid (by rw [Hv.out, decide_eq_false (by omega : ¬ 0 ≤ n1)]; rfl)
    clear Hv c1
    go_wp2
    refine sch_start [(0, true), (1, true), (2, true), (3, true), (4, true), (5, true), (6, true), (7, true), (8, true), (9, true), (10, true), (11, true), (12, true), (13, true), (14, true), (15, true), (16, true), (17, true), (18, true), (19, true), (20, true), (21, true), (22, true), (23, true), (24, true), (25, true), (26, true), (27, true), (28, true), (29, true), (30, true), (31, true), (32, true), (33, true), (34, true), (35, true), (36, true), (37, true)] (fun W => Below w1.heap.size w1 W) (by kernel_rfl) rfl (by kernel_rfl) (fun _ _ _ _ _ h => h) (Below.refl _ w1).drew (fun hH => ?_)
    repeat (first | (refine sch_yes (v := ?_) rfl rfl ?_ hH ?_; rotate_left; (focus ((intro W hW; obtain ⟨s0, s1, s2, s3, s4⟩ := HS.out W hW; go_simp) <;> with_reducible rfl)); simp only [Act.put, List.setIfInBounds_toArray, List.set_cons_zero, List.set_cons_succ]) | (refine sch_no rfl rfl hH ?_; simp only [Act.put, List.setIfInBounds_toArray, List.set_cons_zero, List.set_cons_succ]))
    refine sch_done ?_
    have HD := Lib.hid (HB1.out.trans (hH.mono HB1.out.size))
    clear hH
    generalize w1.drew = w2 at *
    go_wp2
    go_ret
    exact ⟨by rw [Hr.out]; rfl, HD.out⟩
  have k1 : decide (n1 < 0) = false := decide_eq_false c1
  by_cases c2 : 1073741824 < n1
  · have k2 : decide (1073741824 < n1) = true := decide_eq_true c2
    have Hr : Hid (r = false) := Lib.hid (by rw [Hv.out, decide_eq_false (by omega : ¬ n1 ≤ 1073741824)]; simp)
    clear Hv c1 c2
    go_wp2
    refine sch_start [(0, true), (1, true), (2, true), (3, true), (4, true), (5, true), (6, true), (7, true), (8, true), (9, true), (10, true), (11, true), (12, true), (13, true), (14, true), (15, true), (16, true), (17, true), (18, true), (19, true), (20, true), (21, true), (22, true), (23, true), (24, true), (25, true), (26, true), (27, true), (28, true), (29, true), (30, true), (31, true), (32, true), (33, true), (34, true), (35, true), (36, true), (37, true)] (fun W => Below w1.heap.size w1 W) (by kernel_rfl) rfl (by kernel_rfl) (fun _ _ _ _ _ h => h) (Below.refl _ w1).drew (fun hH => ?_)
    repeat (first | (refine sch_yes (v := ?_) rfl rfl ?_ hH ?_; rotate_left; (focus ((intro W hW; obtain ⟨s0, s1, s2, s3, s4⟩ := HS.out W hW; go_simp) <;> with_reducible rfl)); simp only [Act.put, List.setIfInBounds_toArray, List.set_cons_zero, List.set_cons_succ]) | (refine sch_no rfl rfl hH ?_; simp only [Act.put, List.setIfInBounds_toArray, List.set_cons_zero, List.set_cons_succ]))
    refine sch_done ?_
    have HD := Lib.hid (HB1.out.trans (hH.mono HB1.out.size))
    clear hH
    generalize w1.drew = w2 at *
    go_wp2
    go_ret
    exact ⟨by rw [Hr.out]; rfl, HD.out⟩
  have k2 : decide (1073741824 < n1) = false := decide_eq_false c2
  have q1 : decide (0 ≤ n1) = true := decide_eq_true (by omega)
  have q2 : decide (n1 ≤ 1073741824) = true := decide_eq_true (by omega)
  rcases hpre with ⟨rfl, rfl⟩ | ⟨j, rfl, z0⟩
  · have q3 : decide ((-1 : Int) < n1) = true := decide_eq_true (by omega)
    by_cases c4 : n2 < 0
    · have k4 : decide (n2 < 0) = true := decide_eq_true c4
      have Hr : Hid (r = false) := Lib.hid (by rw [Hv.out, decide_eq_false (by omega : ¬ 0 ≤ n2)]; simp)
      clear Hv c1 c2 c4
      go_wp2
      refine sch_start [(0, true), (1, true), (2, true), (3, true), (4, true), (5, true), (6, true), (7, true), (8, true), (9, true), (10, true), (11, true), (12, true), (13, true), (14, true), (15, true), (16, true), (17, true), (18, true), (19, true), (20, true), (21, true), (22, true), (23, true), (24, true), (25, true), (26, true), (27, true), (28, true), (29, true), (30, true), (31, true), (32, true), (33, true), (34, true), (35, true), (36, true), (37, true)] (fun W => Below w1.heap.size w1 W) (by kernel_rfl) rfl (by kernel_rfl) (fun _ _ _ _ _ h => h) (Below.refl _ w1).drew (fun hH => ?_)
      repeat (first | (refine sch_yes (v := ?_) rfl rfl ?_ hH ?_; rotate_left; (focus ((intro W hW; obtain ⟨s0, s1, s2, s3, s4⟩ := HS.out W hW; go_simp) <;> with_reducible rfl)); simp only [Act.put, List.setIfInBounds_toArray, List.set_cons_zero, List.set_cons_succ]) | (refine sch_no rfl rfl hH ?_; simp only [Act.put, List.setIfInBounds_toArray, List.set_cons_zero, List.set_cons_succ]))
      refine sch_done ?_
      have HD := Lib.hid (HB1.out.trans (hH.mono HB1.out.size))
      clear hH
      generalize w1.drew = w2 at *
      go_wp2
      go_ret
      exact ⟨by rw [Hr.out]; rfl, HD.out⟩
    have k4 : decide (n2 < 0) = false := decide_eq_false c4
    by_cases c5 : (N : Int) ≤ n2
    · have k5 : decide ((N : Int) ≤ n2) = true := decide_eq_true c5
      have Hr : Hid (r = false) := Lib.hid (by rw [Hv.out, decide_eq_false (by omega : ¬ n2 < (N : Int))]; simp)
      clear Hv c1 c2 c4 c5
      go_wp2
      refine sch_start [(0, true), (1, true), (2, true), (3, true), (4, true), (5, true), (6, true), (7, true), (8, true), (9, true), (10, true), (11, true), (12, true), (13, true), (14, true), (15, true), (16, true), (17, true), (18, true), (19, true), (20, true), (21, true), (22, true), (23, true), (24, true), (25, true), (26, true), (27, true), (28, true), (29, true), (30, true), (31, true), (32, true), (33, true), (34, true), (35, true), (36, true), (37, true)] (fun W => Below w1.heap.size w1 W) (by kernel_rfl) rfl (by kernel_rfl) (fun _ _ _ _ _ h => h) (Below.refl _ w1).drew (fun hH => ?_)
      repeat (first | (refine sch_yes (v := ?_) rfl rfl ?_ hH ?_; rotate_left; (focus ((intro W hW; obtain ⟨s0, s1, s2, s3, s4⟩ := HS.out W hW; go_simp) <;> with_reducible rfl)); simp only [Act.put, List.setIfInBounds_toArray, List.set_cons_zero, List.set_cons_succ]) | (refine sch_no rfl rfl hH ?_; simp only [Act.put, List.setIfInBounds_toArray, List.set_cons_zero, List.set_cons_succ]))
      refine sch_done ?_
      have HD := Lib.hid (HB1.out.trans (hH.mono HB1.out.size))
      clear hH
      generalize w1.drew = w2 at *
      go_wp2
      go_ret
      exact ⟨by rw [Hr.out]; rfl, HD.out⟩
    have k5 : decide ((N : Int) ≤ n2) = false := decide_eq_false c5
    obtain ⟨t, bt, offt, AF, cF, rfl, rfl, hbt, ty1⟩ := Hty.out (by omega) (by omega)
    have k5' : decide (N ≤ t) = false := decide_eq_false (by omega)
    have hr : r = decide (vl = fl) := by rw [Hv.out, q1, q2, q3, decide_eq_true (by omega : (0 : Int) ≤ (t : Int)), decide_eq_true (by omega : (t : Int) < (N : Int))]; rfl
    have htl : (t : Int) < (N : Int) := by omega
    have ht0 : (0 : Int) ≤ (t : Int) := Int.natCast_nonneg t
    have hvf : ((vl : Int) == (fl : Int)) = decide (vl = fl) := by by_cases hh : vl = fl <;> simp [hh] <;> omega
    have HS2 := Lib.hid (fun (W : World) (hW : Below w1.heap.size w1 W) => And.intro (HS.out W hW) (((HB1.out.trans (hW.mono HB1.out.size)).cell (p := ⟨bt, offt + t * 2 + 1, none⟩) hbt).trans ty1))
    have Hr := Lib.hid hr
    clear Hv c1 c2 c4 c5 hr Hty
    generalize decide (vl = fl) = rr at *
    go_wp2
    refine sch_start [(0, true), (1, true), (2, true), (3, true), (4, true), (5, true), (6, true), (7, true), (8, true), (9, true), (10, true), (11, true), (12, true), (13, true), (14, true), (15, true), (16, true), (17, true), (18, true), (19, true), (20, true), (21, true), (22, true), (23, true), (24, true), (25, true), (26, true), (27, true), (28, true), (29, true), (30, true), (31, true), (32, true), (33, true), (34, true), (35, true), (36, true), (37, true)] (fun W => Below w1.heap.size w1 W) (by kernel_rfl) rfl (by kernel_rfl) (fun _ _ _ _ _ h => h) (Below.refl _ w1).drew (fun hH => ?_)
    repeat (first | (refine sch_yes (v := ?_) rfl rfl ?_ hH ?_; rotate_left; (focus ((intro W hW; obtain ⟨s0, s1, s2, s3, s4⟩ := HS.out W hW; go_simp) <;> with_reducible rfl)); simp only [Act.put, List.setIfInBounds_toArray, List.set_cons_zero, List.set_cons_succ]) | (refine sch_no rfl rfl hH ?_; simp only [Act.put, List.setIfInBounds_toArray, List.set_cons_zero, List.set_cons_succ]))
    refine sch_done ?_
    have HD := Lib.hid (HB1.out.trans (hH.mono HB1.out.size))
    have HC := Lib.hid hH
    clear hH
    generalize w1.drew = w2 at *
    have HS3 := Lib.hid (fun (W : World) (hW : Below w2.heap.size w2 W) => HS2.out W (HC.out.trans (hW.mono HC.out.size)))
    go_wp2
    refine sch_start [(0, true), (1, true), (2, true), (3, true), (4, true), (5, true), (6, true), (7, true), (8, true), (9, true), (10, true), (11, true), (12, true), (13, true)] (fun W => Below w2.heap.size w2 W) (by kernel_rfl) rfl (by kernel_rfl) (fun _ _ _ _ _ h => h) (Below.refl _ w2).drew (fun hH => ?_)
    repeat (first | (refine sch_yes (v := ?_) rfl rfl ?_ hH ?_; rotate_left; (focus ((intro W hW; obtain ⟨⟨s0, s1, s2, s3, s4⟩, s5⟩ := HS3.out W hW; go_simp) <;> with_reducible rfl)); simp only [Act.put, List.setIfInBounds_toArray, List.set_cons_zero, List.set_cons_succ]) | (refine sch_no rfl rfl hH ?_; simp only [Act.put, List.setIfInBounds_toArray, List.set_cons_zero, List.set_cons_succ]))
    refine sch_done ?_
    have HE := Lib.hid (HD.out.trans (hH.mono HD.out.size))
    clear hH
    go_wp2
    go_ret
    exact ⟨by rw [Hr.out]; rfl, HE.out⟩
  · have e1 : IntKind.i64.wrap (j : Int) = (j : Int) := IntWalk.i64_in _ (by omega)
    have e2 : decide ((0 : Int) < ((j + 1 : Nat) : Int)) = true := decide_eq_true (by omega)
    have e3 : (j : Int) < (M : Int) := by omega
    have e4 : (0 : Int) ≤ (j : Int) := Int.natCast_nonneg j
    replace HS := Lib.hid (fun (W : World) (hW : Below w1.heap.size w1 W) => (show _ ∧ _ ∧ _ ∧ _ ∧ _ from HS.out W hW))
    have Hz := Lib.hid (fun (W : World) (hW : Below w1.heap.size w1 W) => ((HB1.out.trans (hW.mono HB1.out.size)).cell (p := ⟨b, off + j * 3, none⟩) hb).trans z0)
    by_cases c3 : n1 ≤ pid
    · have k3 : decide (n1 ≤ pid) = true := decide_eq_true c3
      have Hr : Hid (r = false) := Lib.hid (by rw [Hv.out, decide_eq_false (by omega : ¬ pid < n1)]; simp)
      clear Hv c1 c2 c3
      go_wp2
      refine sch_start [(0, true), (1, true), (2, true), (3, true), (4, true), (5, true), (6, true), (7, true), (8, true), (9, true), (10, true), (11, true), (12, true), (13, true), (14, true), (15, true), (16, true), (17, true), (18, true), (19, true), (20, true), (21, true), (22, true), (23, true), (24, true), (25, true), (26, true), (27, true), (28, true), (29, true), (30, true), (31, true), (32, true), (33, true), (34, true), (35, true), (36, true), (37, true)] (fun W => Below w1.heap.size w1 W) (by kernel_rfl) rfl (by kernel_rfl) (fun _ _ _ _ _ h => h) (Below.refl _ w1).drew (fun hH => ?_)
      repeat (first | (refine sch_yes (v := ?_) rfl rfl ?_ hH ?_; rotate_left; (focus ((intro W hW; obtain ⟨s0, s1, s2, s3, s4⟩ := HS.out W hW; have s6 := Hz.out W hW; go_simp) <;> with_reducible rfl)); simp only [Act.put, List.setIfInBounds_toArray, List.set_cons_zero, List.set_cons_succ]) | (refine sch_no rfl rfl hH ?_; simp only [Act.put, List.setIfInBounds_toArray, List.set_cons_zero, List.set_cons_succ]))
      refine sch_done ?_
      have HD := Lib.hid (HB1.out.trans (hH.mono HB1.out.size))
      clear hH
      generalize w1.drew = w2 at *
      go_wp2
      go_ret
      exact ⟨by rw [Hr.out]; rfl, HD.out⟩
    have k3 : decide (n1 ≤ pid) = false := decide_eq_false c3
    have q3 : decide (pid < n1) = true := decide_eq_true (by omega)
    clear c3
    by_cases c4 : n2 < 0
    · have k4 : decide (n2 < 0) = true := decide_eq_true c4
      have Hr : Hid (r = false) := Lib.hid (by rw [Hv.out, decide_eq_false (by omega : ¬ 0 ≤ n2)]; simp)
      clear Hv c1 c2 c4
      go_wp2
      refine sch_start [(0, true), (1, true), (2, true), (3, true), (4, true), (5, true), (6, true), (7, true), (8, true), (9, true), (10, true), (11, true), (12, true), (13, true), (14, true), (15, true), (16, true), (17, true), (18, true), (19, true), (20, true), (21, true), (22, true), (23, true), (24, true), (25, true), (26, true), (27, true), (28, true), (29, true), (30, true), (31, true), (32, true), (33, true), (34, true), (35, true), (36, true), (37, true)] (fun W => Below w1.heap.size w1 W) (by kernel_rfl) rfl (by kernel_rfl) (fun _ _ _ _ _ h => h) (Below.refl _ w1).drew (fun hH => ?_)
      repeat (first | (refine sch_yes (v := ?_) rfl rfl ?_ hH ?_; rotate_left; (focus ((intro W hW; obtain ⟨s0, s1, s2, s3, s4⟩ := HS.out W hW; have s6 := Hz.out W hW; go_simp) <;> with_reducible rfl)); simp only [Act.put, List.setIfInBounds_toArray, List.set_cons_zero, List.set_cons_succ]) | (refine sch_no rfl rfl hH ?_; simp only [Act.put, List.setIfInBounds_toArray, List.set_cons_zero, List.set_cons_succ]))
      refine sch_done ?_
      have HD := Lib.hid (HB1.out.trans (hH.mono HB1.out.size))
      clear hH
      generalize w1.drew = w2 at *
      go_wp2
      go_ret
      exact ⟨by rw [Hr.out]; rfl, HD.out⟩
    have k4 : decide (n2 < 0) = false := decide_eq_false c4
    by_cases c5 : (N : Int) ≤ n2
    · have k5 : decide ((N : Int) ≤ n2) = true := decide_eq_true c5
      have Hr : Hid (r = false) := Lib.hid (by rw [Hv.out, decide_eq_false (by omega : ¬ n2 < (N : Int))]; simp)
      clear Hv c1 c2 c4 c5
      go_wp2
      refine sch_start [(0, true), (1, true), (2, true), (3, true), (4, true), (5, true), (6, true), (7, true), (8, true), (9, true), (10, true), (11, true), (12, true), (13, true), (14, true), (15, true), (16, true), (17, true), (18, true), (19, true), (20, true), (21, true), (22, true), (23, true), (24, true), (25, true), (26, true), (27, true), (28, true), (29, true), (30, true), (31, true), (32, true), (33, true), (34, true), (35, true), (36, true), (37, true)] (fun W => Below w1.heap.size w1 W) (by kernel_rfl) rfl (by kernel_rfl) (fun _ _ _ _ _ h => h) (Below.refl _ w1).drew (fun hH => ?_)
      repeat (first | (refine sch_yes (v := ?_) rfl rfl ?_ hH ?_; rotate_left; (focus ((intro W hW; obtain ⟨s0, s1, s2, s3, s4⟩ := HS.out W hW; have s6 := Hz.out W hW; go_simp) <;> with_reducible rfl)); simp only [Act.put, List.setIfInBounds_toArray, List.set_cons_zero, List.set_cons_succ]) | (refine sch_no rfl rfl hH ?_; simp only [Act.put, List.setIfInBounds_toArray, List.set_cons_zero, List.set_cons_succ]))
      refine sch_done ?_
      have HD := Lib.hid (HB1.out.trans (hH.mono HB1.out.size))
      clear hH
      generalize w1.drew = w2 at *
      go_wp2
      go_ret
      exact ⟨by rw [Hr.out]; rfl, HD.out⟩
    have k5 : decide ((N : Int) ≤ n2) = false := decide_eq_false c5
    obtain ⟨t, bt, offt, AF, cF, rfl, rfl, hbt, ty1⟩ := Hty.out (by omega) (by omega)
    have k5' : decide (N ≤ t) = false := decide_eq_false (by omega)
    have hr : r = decide (vl = fl) := by rw [Hv.out, q1, q2, q3, decide_eq_true (by omega : (0 : Int) ≤ (t : Int)), decide_eq_true (by omega : (t : Int) < (N : Int))]; rfl
    have htl : (t : Int) < (N : Int) := by omega
    have ht0 : (0 : Int) ≤ (t : Int) := Int.natCast_nonneg t
    have hvf : ((vl : Int) == (fl : Int)) = decide (vl = fl) := by by_cases hh : vl = fl <;> simp [hh] <;> omega
    have HS2 := Lib.hid (fun (W : World) (hW : Below w1.heap.size w1 W) => And.intro (HS.out W hW) (((HB1.out.trans (hW.mono HB1.out.size)).cell (p := ⟨bt, offt + t * 2 + 1, none⟩) hbt).trans ty1))
    have Hr := Lib.hid hr
    clear Hv c1 c2 c4 c5 hr Hty
    generalize decide (vl = fl) = rr at *
    go_wp2
    refine sch_start [(0, true), (1, true), (2, true), (3, true), (4, true), (5, true), (6, true), (7, true), (8, true), (9, true), (10, true), (11, true), (12, true), (13, true), (14, true), (15, true), (16, true), (17, true), (18, true), (19, true), (20, true), (21, true), (22, true), (23, true), (24, true), (25, true), (26, true), (27, true), (28, true), (29, true), (30, true), (31, true), (32, true), (33, true), (34, true), (35, true), (36, true), (37, true)] (fun W => Below w1.heap.size w1 W) (by kernel_rfl) rfl (by kernel_rfl) (fun _ _ _ _ _ h => h) (Below.refl _ w1).drew (fun hH => ?_)
    repeat (first | (refine sch_yes (v := ?_) rfl rfl ?_ hH ?_; rotate_left; (focus ((intro W hW; obtain ⟨s0, s1, s2, s3, s4⟩ := HS.out W hW; have s6 := Hz.out W hW; go_simp) <;> with_reducible rfl)); simp only [Act.put, List.setIfInBounds_toArray, List.set_cons_zero, List.set_cons_succ]) | (refine sch_no rfl rfl hH ?_; simp only [Act.put, List.setIfInBounds_toArray, List.set_cons_zero, List.set_cons_succ]))
    refine sch_done ?_
    have HD := Lib.hid (HB1.out.trans (hH.mono HB1.out.size))
    have HC := Lib.hid hH
    clear hH
    generalize w1.drew = w2 at *
    have HS3 := Lib.hid (fun (W : World) (hW : Below w2.heap.size w2 W) => HS2.out W (HC.out.trans (hW.mono HC.out.size)))
    go_wp2
    refine sch_start [(0, true), (1, true), (2, true), (3, true), (4, true), (5, true), (6, true), (7, true), (8, true), (9, true), (10, true), (11, true), (12, true), (13, true)] (fun W => Below w2.heap.size w2 W) (by kernel_rfl) rfl (by kernel_rfl) (fun _ _ _ _ _ h => h) (Below.refl _ w2).drew (fun hH => ?_)
    repeat (first | (refine sch_yes (v := ?_) rfl rfl ?_ hH ?_; rotate_left; (focus ((intro W hW; obtain ⟨⟨s0, s1, s2, s3, s4⟩, s5⟩ := HS3.out W hW; go_simp) <;> with_reducible rfl)); simp only [Act.put, List.setIfInBounds_toArray, List.set_cons_zero, List.set_cons_succ]) | (refine sch_no rfl rfl hH ?_; simp only [Act.put, List.setIfInBounds_toArray, List.set_cons_zero, List.set_cons_succ]))
    refine sch_done ?_
    have HE := Lib.hid (HD.out.trans (hH.mono HD.out.size))
    clear hH
    go_wp2
    go_ret
    exact ⟨by rw [Hr.out]; rfl, HE.out⟩
end Go.Proofs.Ytembafogbfcajaa

/- The document's own way to tell whether a graph may be, on plain data. No condition. -/
namespace Go.Proofs.Ytembafogbfcajaa

theorem objB_may {g : Gr} (hm : mayG g = true) {I : Nat} {o : Ob} (ho : g.2.1[I]? = some o) : objB g (lstG g.2.1 I) o = true := by
  have mo := mayG_obj hm (List.mem_of_getElem? ho)
  have hl : lstG g.2.1 I < o.1 := by
    cases I with
    | zero => have := mo.id0; rw [lstG]; omega
    | succ j =>
      have hlt := (List.getElem?_eq_some_iff.1 ho).1
      obtain ⟨p, hp⟩ : ∃ p, g.2.1[j]? = some p := ⟨_, List.getElem?_eq_getElem (by omega)⟩
      rw [lst_at hp]
      have hs := mayG_sorted hm
      rw [List.pairwise_iff_getElem] at hs
      have := hs j (j + 1) (by omega) hlt (by omega)
      rw [(List.getElem?_eq_some_iff.1 ho).2, (List.getElem?_eq_some_iff.1 hp).2] at this
      exact this
  have h1 := mo.id0
  have h2 := mo.id1
  have h3 := mo.t0
  have h4 := mo.t1
  have h5 := mo.len
  rw [objB, decide_eq_true h1, decide_eq_true h2, decide_eq_true hl, decide_eq_true h3, decide_eq_true h4, decide_eq_true h5.symm]
  rfl
theorem objB_parts {g : Gr} {l : Int} {o : Ob} (h : objB g l o = true) : 0 ≤ o.1 ∧ o.1 ≤ 1073741824 ∧ l < o.1 ∧ 0 ≤ o.2.1 ∧ o.2.1 < (g.1.length : Int) ∧ (fldsG g.1 o.2.1).length = o.2.2.length := by
  rw [objB] at h
  simp only [Bool.and_eq_true, decide_eq_true_eq] at h
  exact ⟨h.1.1.1.1, h.1.1.1.2, h.1.1.2, h.1.2.1, h.1.2.2, h.2.symm⟩
theorem rise_of {g : Gr} {l : List Ob} (h : ∀ (I : Nat) o, l[I]? = some o → lstG l I < o.1 ∧ o.1 ≤ 1073741824 ∧ mayO g o = true) : ∀ (n i : Nat), l.length - i = n → riseG g (lstG l i) (l.drop i) = true
  | 0, i, hn => riseG_end (by omega)
  | n + 1, i, hn => by
    obtain ⟨o, ho⟩ : ∃ o, l[i]? = some o := ⟨_, List.getElem?_eq_getElem (by omega)⟩
    obtain ⟨h1, h2, h3⟩ := h i o ho
    rw [riseG_at ho, decide_eq_true h1, decide_eq_true h2, h3, ← lst_at ho, rise_of h n (i + 1) (by omega)]
    rfl
/-- All that is asked, one after the other. -/
theorem may_all {g : Gr} (h1 : mayS g.1 = true) (h2 : g.2.1.length ≤ 8) (h3 : g.2.2.length ≤ 3) (h4 : ∀ (I : Nat) o, I < g.2.1.length → g.2.1[I]? = some o → objB g (lstG g.2.1 I) o = true)
    (h5 : ∀ (I : Nat) o (k : Nat) f v, I < g.2.1.length → g.2.1[I]? = some o → (fldsG g.1 o.2.1)[k]? = some f → o.2.2[k]? = some v → haveG g f v = true) (h6 : ∀ (j : Nat) r, j < g.2.2.length → g.2.2[j]? = some r → rootG g.2.1 r = true) : mayG g = true := by
  have hr : riseG g (-1) g.2.1 = true := by
    have := rise_of (g := g) (l := g.2.1) (fun I o ho => by
      have hlt := (List.getElem?_eq_some_iff.1 ho).1
      obtain ⟨a1, a2, a3, a4, a5, a6⟩ := objB_parts (h4 I o hlt ho)
      exact ⟨a3, a2, mayO_iff.2 ⟨⟨a4, a5⟩, a6, fun k f v hf hv => h5 I o k f v hlt ho hf hv⟩⟩) g.2.1.length 0 (by omega)
    exact this
  rw [mayG, mayOs, mayRs, h1, hr, decide_eq_true h2, decide_eq_true h3]
  have : g.2.2.all (rootG g.2.1) = true := List.all_eq_true.2 fun r hr => by
    obtain ⟨j, hj⟩ := List.getElem?_of_mem hr
    exact h6 j r (List.getElem?_eq_some_iff.1 hj).1 hj
  rw [this]
  rfl
end Go.Proofs.Ytembafogbfcajaa

/- The contract of the document's own May (layer 8): just what the plain function tells. Nothing that was there is changed. Condition: names of at most 1048576 bytes. -/
namespace Go.Proofs.Ytembafogbfcajaa
open Go.RowKit

set_option maxRecDepth 100000 in
set_option maxHeartbeats 4000000 in
theorem rgmay_any (A B C : Option Addr) (N c M d K e : Nat) (g : Gr) (w : World) (h : rGr (All w) w [.slice A N c, .slice B M d, .slice C K e] g) (htame : tameS g.1) :
    Calls Try.prog 24 #[.agg #[.slice A N c, .slice B M d, .slice C K e]] w fun e w' => e = .returned (.bool (mayG g)) ∧ Below w.heap.size w w' := by
  obtain ⟨hN, -, -⟩ := slice_len (rGr_open h).1
  obtain ⟨hM, hMd, hdm⟩ := slice_len (rGr_open h).2.1
  obtain ⟨hK, hKe, hem⟩ := slice_len (rGr_open h).2.2
  simp only [maxLen] at hdm hem
  have hB0 : Below w.heap.size w (w.alloc (.cells #[.slice A N c, .slice B M d, .slice C K e] 28)) := (Below.refl _ w).alloc (Nat.le_refl _) _
  have p1 := Blk.new w 28 [.slice A N c, .slice B M d, .slice C K e]
  have TS := Lib.hid (fun W (hW : Below w.heap.size w W) => rsmay_any A N c g.1 W (sch_below hW (rGr_open h).1) htame)
  have TO := Lib.hid (fun W (hW : Below w.heap.size w W) I o ho => robject_any A B C N c M d K e g I o W (gr_below hW h) ho)
  have TL := Lib.hid (fun W (hW : Below w.heap.size w W) x y s f v hy hs => rleads_any A B C N c M d K e g x y s f v W (gr_below hW h) hy hs)
  have TG := Lib.hid (fun W (hW : Below w.heap.size w W) x => rgfind_any A B C N c M d K e g x W (gr_below hW h))
  have Hg := Lib.hid (fun W (hW : Below w.heap.size w W) => gr_below hW h)
  have Hobj := Lib.hid (fun I o ho (hf : objB g (lstG g.2.1 I) o = false) => (show mayG g = false by
    cases hm : mayG g
    · rfl
    · rw [objB_may hm (I := I) (o := o) ho] at hf; cases hf))
  have Hlead := Lib.hid (fun o (ho : o ∈ g.2.1) k f v h1 h2 (hf : haveG g f v = false) => (show mayG g = false by
    cases hm : mayG g
    · rfl
    · rw [(mayG_obj hm ho).have' k f v h1 h2] at hf; cases hf))
  have Hroot := Lib.hid (fun r (hr : r ∈ g.2.2) (hf : rootG g.2.1 r = false) => (show mayG g = false by
    cases hm : mayG g
    · rfl
    · rw [(mayG_parts hm).2.2.2.2 r hr] at hf; cases hf))
  have Hs : Hid (mayS g.1 = false → mayG g = false) := Lib.hid fun hf => by
    cases hm : mayG g
    · rfl
    · rw [(mayG_parts hm).1] at hf; cases hf
  have H8 : Hid (8 < M → mayG g = false) := Lib.hid fun hf => by
    cases hm : mayG g
    · rfl
    · have := (mayG_parts hm).2.1; omega
  have H3 : Hid (3 < K → mayG g = false) := Lib.hid fun hf => by
    cases hm : mayG g
    · rfl
    · have := (mayG_parts hm).2.2.2.1; omega
  have Hall := Lib.hid (fun h1 h2 h3 h4 h5 h6 => may_all (g := g) h1 h2 h3 h4 h5 h6)
  rw [hM, hK] at Hall
  have HN := Lib.hid hN
  have HM := Lib.hid hM
  have HK := Lib.hid hK
  have HB0 := Lib.hid hB0
  clear hB0 h htame hN hM hK
  generalize hmg : mayG g = r at *
  clear hmg
  generalize hms : mayS g.1 = ms at *
  have Hms := Lib.hid hms
  clear hms
  have c0 := p1.cell (j := 0) rfl
  go_enter Try.func24, Try.ntmps24
  go_wp2_with fail
  refine (TS.out _ HB0.out).mono ?_
  rintro e w1 ⟨rfl, hB1⟩
  have H1 := Lib.hid (HB0.out.trans (hB1.mono HB0.out.size))
  replace p1 := p1.to hB1
  clear hB1 HB0 c0 TS
  have c1 := p1.cell (j := 1) rfl
  have c2 := p1.cell (j := 2) rfl
  cases ms
  · have Hr := Lib.hid (Hs.out rfl)
    clear Hs Hall
    go_wp2
    go_ret
    exact ⟨by rw [Hr.out]; rfl, H1.out⟩
  by_cases hM8 : 8 < M
  · have k1 : decide ((8 : Int) < (M : Int)) = true := decide_eq_true (by omega)
    have Hr := Lib.hid (H8.out hM8)
    clear Hs Hall hM8
    go_wp2
    go_ret
    exact ⟨by rw [Hr.out]; rfl, H1.out⟩
  have k1 : decide ((8 : Int) < (M : Int)) = false := decide_eq_false (by omega)
  by_cases hK3 : 3 < K
  · have k2 : decide ((3 : Int) < (K : Int)) = true := decide_eq_true (by omega)
    have Hr := Lib.hid (H3.out hK3)
    clear Hs Hall hK3
    go_wp2
    go_ret
    exact ⟨by rw [Hr.out]; rfl, H1.out⟩
  have k2 : decide ((3 : Int) < (K : Int)) = false := decide_eq_false (by omega)
  have Hall2 := Lib.hid (Hall.out rfl (by omega) (by omega))
  clear Hall Hs H8 H3
  go_wp2
  have P1 := Lib.hid p1
  clear p1 c1 c2
  go_loopw [4] (fun iv W => ∃ i : Nat, i ≤ M ∧ iv = .int .i64 (i : Int) ∧ Hid (Below w1.heap.size w1 W) ∧ Hid (∀ (I : Nat) o, I < i → g.2.1[I]? = some o → objB g (lstG g.2.1 I) o = true)) (fun iv _ => M - (intOf iv).toNat)
  case atStart => exact ⟨0, by omega, rfl, Lib.hid (Below.refl _ _), Lib.hid fun I o hI => by omega⟩
  case round =>
    rename World => wr
    obtain ⟨i, hi, rfl, hD, hdone⟩ := hrel
    have Hr := Lib.hid (H1.out.trans (hD.out.mono H1.out.size))
    have P2 := Lib.hid (P1.out.to hD.out)
    have c0 := P2.out.cell (j := 0) rfl
    have c1 := P2.out.cell (j := 1) rfl
    have c2 := P2.out.cell (j := 2) rfl
    by_cases hin : i < M
    · obtain ⟨o, ho⟩ : ∃ o, g.2.1[i]? = some o := ⟨_, List.getElem?_eq_getElem (by have := HM.out; omega)⟩
      have T1 := Lib.hid (TO.out _ Hr.out i o ho)
      have Hbad := Lib.hid (Hobj.out i o ho)
      have Hgood : Hid (objB g (lstG g.2.1 i) o = true → ∀ (I : Nat) o, I < i + 1 → g.2.1[I]? = some o → objB g (lstG g.2.1 I) o = true) := Lib.hid fun e I o' hI ho' => by
        by_cases hIi : I < i
        · exact hdone.out I o' hIi ho'
        · obtain rfl : I = i := by omega
          rw [ho] at ho'
          injection ho' with ho'
          subst ho'
          exact e
      clear hdone ho
      generalize objB g (lstG g.2.1 i) o = bb at *
      go_wp2_with fail
      refine T1.out.mono ?_
      rintro e w2 ⟨rfl, hB2⟩
      have HD := Lib.hid (hD.out.trans (hB2.mono hD.out.size))
      have HE := Lib.hid (Hr.out.trans (hB2.mono Hr.out.size))
      clear hB2 T1
      cases bb
      · have Hq := Lib.hid (Hbad.out rfl)
        clear Hbad Hgood
        go_wp2
        go_ret
        exact ⟨by rw [Hq.out]; rfl, HE.out⟩
      · have Hq := Lib.hid (Hgood.out rfl)
        clear Hbad Hgood
        go_wp2
        go_roundw
        case rel => exact ⟨i + 1, by omega, by go_num, HD, Hq⟩
        case measure => simp [intOf]; omega
    · obtain rfl : i = M := by omega
      have Hall3 := Lib.hid (Hall2.out hdone.out)
      clear Hall2 hin hi
      go_wp2
      clear c0 c1 c2
      go_loopw [6] (fun iv W => ∃ q : Nat, q ≤ i ∧ iv = .int .i64 (q : Int) ∧ Hid (Below wr.heap.size wr W) ∧ Hid (∀ (I : Nat) o (k : Nat) f v, I < q → g.2.1[I]? = some o → (fldsG g.1 o.2.1)[k]? = some f → o.2.2[k]? = some v → haveG g f v = true)) (fun iv _ => i - (intOf iv).toNat)
      case atStart => exact ⟨0, by omega, rfl, Lib.hid (Below.refl _ _), Lib.hid fun I o k f v hI => by omega⟩
      case round =>
        rename World => ws
        obtain ⟨q, hq, rfl, hE, hld⟩ := hrel
        have Hi := Lib.hid (Hr.out.trans (hE.out.mono Hr.out.size))
        have P3 := Lib.hid (P2.out.to hE.out)
        have c0 := P3.out.cell (j := 0) rfl
        have c1 := P3.out.cell (j := 1) rfl
        have c2 := P3.out.cell (j := 2) rfl
        by_cases hqn : q < i
        · obtain ⟨o, ho⟩ : ∃ o, g.2.1[q]? = some o := ⟨_, List.getElem?_eq_getElem (by have := HM.out; omega)⟩
          obtain ⟨a1, a2, a3, a4, a5, hlen⟩ := objB_parts (hdone.out q o hqn ho)
          obtain ⟨b, off, A2, cv, rfl, hb, x0, x1, x2, hvs, -, -⟩ := ob_at (rGr_open (Hg.out _ Hi.out)).2.1 ho
          have hil : (q : Int) < (i : Int) := by omega
          have hi0 : (0 : Int) ≤ (q : Int) := Int.natCast_nonneg q
          have hom := List.mem_of_getElem? ho
          have hvn : o.2.2.length ≤ 9223372036854775807 := by have := (slice_len hvs).2; simp only [maxLen] at this; omega
          have Hvs := Lib.hid hvs
          obtain ⟨t, ht⟩ : ∃ t : Nat, o.2.1 = (t : Int) := ⟨o.2.1.toNat, by omega⟩
          have htN : t < N := by have := HN.out; omega
          obtain ⟨ty, hty⟩ : ∃ ty, g.1[t]? = some ty := ⟨_, List.getElem?_eq_getElem (by have := HN.out; omega)⟩
          have hfe := fldsG_at ht hty
          obtain ⟨bt, offt, st, AF, cF, rfl, hbt, -, y1, -, -, hfs⟩ := typ_at (rGr_open (Hg.out _ Hi.out)).1 hty
          rw [hfe] at hlen
          have Hfs := Lib.hid hfs
          have htl : (t : Int) < (N : Int) := by omega
          have ht00 : (0 : Int) ≤ (t : Int) := Int.natCast_nonneg t
          rw [ht] at x1
          have Hlk := Lib.hid (fun k f v => Hlead.out o hom k f v)
          rw [hfe] at Hlk
          have Hnext := Lib.hid (fun (hallk : ∀ (k : Nat) f v, k < o.2.2.length → ty.2[k]? = some f → o.2.2[k]? = some v → haveG g f v = true) (I : Nat) o' (k : Nat) f v (hI : I < q + 1) (ho' : g.2.1[I]? = some o') (hf : (fldsG g.1 o'.2.1)[k]? = some f) (hv : o'.2.2[k]? = some v) => (show haveG g f v = true by
            by_cases hIq : I < q
            · exact hld.out I o' k f v hIq ho' hf hv
            · obtain rfl : I = q := by omega
              rw [ho] at ho'
              injection ho' with ho'
              subst ho'
              rw [hfe] at hf
              exact hallk k f v (List.getElem?_eq_some_iff.1 hv).1 hf hv))
          have Hlen := Lib.hid hlen
          clear hld hom ho hty hfe hvs hfs hlen ht a1 a2 a3 a4 a5
          generalize hol : o.2.2.length = ol at *
          have Hol := Lib.hid hol
          clear hol
          generalize hfl : ty.2.length = fl at *
          have Hfl := Lib.hid hfl
          clear hfl
          go_wp2
          clear c0 c1 c2
          go_loopw [7] (fun kv W => ∃ k : Nat, k ≤ ol ∧ kv = .int .i64 (k : Int) ∧ Hid (Below ws.heap.size ws W) ∧ Hid (∀ (j : Nat) f v, j < k → ty.2[j]? = some f → o.2.2[j]? = some v → haveG g f v = true)) (fun kv _ => ol - (intOf kv).toNat)
          case atStart => exact ⟨0, by omega, rfl, Lib.hid (Below.refl _ _), Lib.hid fun j f v hj => by omega⟩
          case round =>
            rename World => wt
            obtain ⟨k, hk, rfl, hF, hal⟩ := hrel
            have Hk := Lib.hid (Hi.out.trans (hF.out.mono Hi.out.size))
            have hEF := Lib.hid (hE.out.trans (hF.out.mono hE.out.size))
            have P4 := Lib.hid (P3.out.to hF.out)
            have u1 := (hF.out.cell (p := ⟨b, off + q * 3 + 1, none⟩) hb).trans x1
            have u2 := (hF.out.cell (p := ⟨b, off + q * 3 + 2, none⟩) hb).trans x2
            have u4 := (hF.out.cell (p := ⟨bt, offt + t * 2 + 1, none⟩) hbt).trans y1
            have c1 := P4.out.cell (j := 1) rfl
            by_cases hkl : k < ol
            · obtain ⟨f, hfk⟩ : ∃ f, ty.2[k]? = some f := ⟨_, List.getElem?_eq_getElem (by have := Hfl.out; have := Hlen.out; omega)⟩
              obtain ⟨bf, offf, sx, tx, rfl, hbf, z0, z1, z2, -, htx, -, -, -⟩ := fld_at (flds_below hF.out Hfs.out) hfk
              obtain ⟨v, hvk⟩ : ∃ v, o.2.2[k]? = some v := ⟨_, List.getElem?_eq_getElem (by have := Hol.out; omega)⟩
              obtain ⟨bv, offv, sv, rfl, hbv, v0, v1, v2, hsv, -, -, -⟩ := val_at (vals_below hF.out Hvs.out) hvk
              have hk0 : (0 : Int) ≤ (k : Int) := Int.natCast_nonneg k
              have hkf : (k : Int) < (fl : Int) := by have := Hlen.out; omega
              have hkv : (k : Int) < (ol : Int) := by omega
              have T1 := Lib.hid (fun W (hW : Below w.heap.size w W) => TL.out W hW sx tx sv f v htx hsv)
              have Hbad := Lib.hid (Hlk.out k f v hfk hvk)
              have Hgood : Hid (haveG g f v = true → ∀ (j : Nat) f v, j < k + 1 → ty.2[j]? = some f → o.2.2[j]? = some v → haveG g f v = true) := Lib.hid fun e j f' v' hj hf' hv' => by
                by_cases hjk : j < k
                · exact hal.out j f' v' hjk hf' hv'
                · obtain rfl : j = k := by omega
                  rw [hfk] at hf'
                  rw [hvk] at hv'
                  injection hf' with hf'
                  injection hv' with hv'
                  subst hf' hv'
                  exact e
              have HS := Lib.hid (fun (W : World) (hW : Below wt.heap.size wt W) => And.intro (And.intro ((P4.out.to hW).cell (j := 0) rfl) (And.intro ((P4.out.to hW).cell (j := 1) rfl) ((P4.out.to hW).cell (j := 2) rfl)))
                (And.intro (And.intro ((hW.cell (p := ⟨b, off + q * 3 + 1, none⟩) (Nat.lt_of_lt_of_le hb hF.out.size)).trans u1) (And.intro ((hW.cell (p := ⟨b, off + q * 3 + 2, none⟩) (Nat.lt_of_lt_of_le hb hF.out.size)).trans u2) ((hW.cell (p := ⟨bt, offt + t * 2 + 1, none⟩) (Nat.lt_of_lt_of_le hbt hF.out.size)).trans u4)))
                (And.intro (And.intro ((hW.cell (p := ⟨bf, offf + k * 3, none⟩) hbf).trans z0) (And.intro ((hW.cell (p := ⟨bf, offf + k * 3 + 1, none⟩) hbf).trans z1) ((hW.cell (p := ⟨bf, offf + k * 3 + 2, none⟩) hbf).trans z2)))
                (And.intro ((hW.cell (p := ⟨bv, offv + k * 3, none⟩) hbv).trans v0) (And.intro ((hW.cell (p := ⟨bv, offv + k * 3 + 1, none⟩) hbv).trans v1) ((hW.cell (p := ⟨bv, offv + k * 3 + 2, none⟩) hbv).trans v2))))))
              clear hfk hvk hal z0 z1 z2 v0 v1 v2 u1 u4 htx hsv
              generalize haveG g f v = bb at *
              generalize f.2.1 = kk at *
              generalize v.1 = n1 at *
              generalize v.2.2 = n2 at *
              go_wp2
              refine sch_start [(0, true), (1, true), (2, true), (3, true), (4, true), (5, true), (6, true), (7, true), (8, true), (9, true), (10, true), (11, true), (12, true), (13, true), (14, true), (15, true), (16, true), (17, true), (18, true), (19, true), (20, true), (21, true), (22, true), (23, true), (24, true), (25, false), (26, true)] (fun W => Below wt.heap.size wt W) (by kernel_rfl) rfl (by kernel_rfl) (fun _ _ _ _ _ h => h) (Below.refl _ wt).drew (fun hH => ?_)
              repeat (first | (refine sch_yes (v := ?_) rfl rfl ?_ hH ?_; rotate_left; (focus ((intro W hW; obtain ⟨⟨x0, x1, x2⟩, ⟨y0, y1, y2⟩, ⟨z0, z1, z2⟩, v0, v1, v2⟩ := HS.out W hW; go_simp) <;> with_reducible rfl)); simp only [Act.put, List.setIfInBounds_toArray, List.set_cons_zero, List.set_cons_succ]) | (refine sch_no rfl rfl hH ?_; simp only [Act.put, List.setIfInBounds_toArray, List.set_cons_zero, List.set_cons_succ]))
              refine sch_call rfl rfl (fun K' hK' => ?_)
              go_wp2_with (go_at_call 40; refine (T1.out _ (Hk.out.trans (hH.mono Hk.out.size))).mono ?_; rintro e w4 ⟨rfl, hB4⟩)
              have hD4 := hH.trans (hB4.mono hH.size)
              refine hK'.out _ _ hD4 ?_
              clear hK' hB4 hH
              have hH := hD4
              repeat (first | (refine sch_yes (v := ?_) rfl rfl ?_ hH ?_; rotate_left; (focus ((intro W hW; obtain ⟨⟨x0, x1, x2⟩, ⟨y0, y1, y2⟩, ⟨z0, z1, z2⟩, v0, v1, v2⟩ := HS.out W hW; go_simp) <;> with_reducible rfl)); simp only [Act.put, List.setIfInBounds_toArray, List.set_cons_zero, List.set_cons_succ]) | (refine sch_no rfl rfl hH ?_; simp only [Act.put, List.setIfInBounds_toArray, List.set_cons_zero, List.set_cons_succ]))
              refine sch_done ?_
              have H4 := Lib.hid (Hk.out.trans (hD4.mono Hk.out.size))
              have HD4 := Lib.hid (hF.out.trans (hD4.mono hF.out.size))
              clear hH hD4 HS T1
              cases bb
              · have Hq := Lib.hid (Hbad.out rfl)
                clear Hbad Hgood
                go_wp2
                go_ret
                exact ⟨by rw [Hq.out]; rfl, H4.out⟩
              · have Hq := Lib.hid (Hgood.out rfl)
                clear Hbad Hgood
                go_wp2
                go_roundw
                case rel => exact ⟨k + 1, by omega, by go_num, HD4, Hq⟩
                case measure => simp [intOf]; omega
            · obtain rfl : k = ol := by omega
              have Hn5 := Lib.hid (Hnext.out hal.out)
              clear Hnext hal
              go_wp2
              go_roundw
              case rel => exact ⟨q + 1, by omega, by go_num, hEF, Hn5⟩
              case measure => simp [intOf]; omega
        · obtain rfl : q = i := by omega
          have Hall4 := Lib.hid (Hall3.out hld.out)
          clear Hall3 hld hqn hq
          go_wp2
          clear c0 c1 c2
          go_loopw [9] (fun iv W => ∃ j : Nat, j ≤ K ∧ iv = .int .i64 (j : Int) ∧ Hid (Below ws.heap.size ws W) ∧ Hid (∀ (p : Nat) r, p < j → g.2.2[p]? = some r → rootG g.2.1 r = true)) (fun iv _ => K - (intOf iv).toNat)
          case atStart => exact ⟨0, by omega, rfl, Lib.hid (Below.refl _ _), Lib.hid fun p r hp => by omega⟩
          case round =>
            rename World => wt
            obtain ⟨j, hj, rfl, hF, hrt⟩ := hrel
            have Hk := Lib.hid (Hi.out.trans (hF.out.mono Hi.out.size))
            have P4 := Lib.hid (P3.out.to hF.out)
            have c2 := P4.out.cell (j := 2) rfl
            by_cases hjK : j < K
            · obtain ⟨x, hx⟩ : ∃ x, g.2.2[j]? = some x := ⟨_, List.getElem?_eq_getElem (by have := HK.out; omega)⟩
              obtain ⟨b, off, rfl, hb, hrc, -⟩ := id_at (rGr_open (Hg.out _ Hk.out)).2.2 hx
              have hjl : (j : Int) < (K : Int) := by omega
              have hj0 : (0 : Int) ≤ (j : Int) := Int.natCast_nonneg j
              have Hbad := Lib.hid (Hroot.out x (List.mem_of_getElem? hx))
              have Hgood : Hid (rootG g.2.1 x = true → ∀ (p : Nat) r, p < j + 1 → g.2.2[p]? = some r → rootG g.2.1 r = true) := Lib.hid fun e p r' hp hr' => by
                by_cases hpj : p < j
                · exact hrt.out p r' hpj hr'
                · obtain rfl : p = j := by omega
                  rw [hx] at hr'
                  injection hr' with hr'
                  subst hr'
                  exact e
              have HS := Lib.hid (fun (W : World) (hW : Below wt.heap.size wt W) => And.intro ((P4.out.to hW).cell (j := 0) rfl) (And.intro ((P4.out.to hW).cell (j := 1) rfl) (And.intro ((P4.out.to hW).cell (j := 2) rfl) ((hW.cell (p := ⟨b, off + j, none⟩) hb).trans hrc))))
              have T1 := Lib.hid (fun W hW => TG.out W hW x)
              have hlow := findG_low g.2.1 x
              have Hrx : Hid (rootG g.2.1 x = (decide (x = -1) || decide (findG g.2.1 x ≠ -1))) := Lib.hid rfl
              clear hrt hx hrc
              generalize rootG g.2.1 x = bb at *
              generalize findG g.2.1 x = fx at *
              by_cases hx1 : x = -1
              · have hx1' : (x != -1) = false := by simp [hx1]
                have Hq := Lib.hid (Hgood.out (by rw [Hrx.out, decide_eq_true hx1]; rfl))
                clear Hbad Hgood hx1 hlow
                go_wp2
                refine sch_start [(0, true), (1, true), (2, true), (3, true), (4, true), (5, true), (6, true), (7, true), (8, true), (9, true), (10, true), (11, true), (12, true), (13, false), (14, true), (15, true)] (fun W => Below wt.heap.size wt W) (by kernel_rfl) rfl (by kernel_rfl) (fun _ _ _ _ _ h => h) (Below.refl _ wt).drew (fun hH => ?_)
                repeat (first | (refine sch_yes (v := ?_) rfl rfl ?_ hH ?_; rotate_left; (focus ((intro W hW; obtain ⟨x0, x1, x2, x3⟩ := HS.out W hW; go_simp) <;> with_reducible rfl)); simp only [Act.put, List.setIfInBounds_toArray, List.set_cons_zero, List.set_cons_succ]) | (refine sch_no rfl rfl hH ?_; simp only [Act.put, List.setIfInBounds_toArray, List.set_cons_zero, List.set_cons_succ]))
                refine sch_call_no rfl rfl hH ?_
                repeat (first | (refine sch_yes (v := ?_) rfl rfl ?_ hH ?_; rotate_left; (focus ((intro W hW; obtain ⟨x0, x1, x2, x3⟩ := HS.out W hW; go_simp) <;> with_reducible rfl)); simp only [Act.put, List.setIfInBounds_toArray, List.set_cons_zero, List.set_cons_succ]) | (refine sch_no rfl rfl hH ?_; simp only [Act.put, List.setIfInBounds_toArray, List.set_cons_zero, List.set_cons_succ]))
                refine sch_done ?_
                have HD4 := Lib.hid (hF.out.trans (hH.mono hF.out.size))
                clear hH HS T1
                go_wp2
                go_roundw
                case rel => exact ⟨j + 1, by omega, by go_num, HD4, Hq⟩
                case measure => simp [intOf]; omega
              · have hx1' : (x != -1) = true := by simp [hx1]
                have Hfx : Hid (bb = decide (¬ fx < 0)) := Lib.hid (by
                  rw [Hrx.out, decide_eq_false hx1, Bool.false_or]
                  by_cases hh : fx = -1
                  · rw [hh]; decide
                  · rw [decide_eq_true hh, decide_eq_true (by omega)])
                clear hx1 hlow Hrx
                by_cases hf0 : fx < 0
                · have hf0' : decide (fx < 0) = true := decide_eq_true hf0
                  have Hq := Lib.hid (Hbad.out (by rw [Hfx.out]; exact decide_eq_false (by omega)))
                  clear Hbad Hgood hf0 Hfx
                  go_wp2
                  refine sch_start [(0, true), (1, true), (2, true), (3, true), (4, true), (5, true), (6, true), (7, true), (8, true), (9, true), (10, true), (11, true), (12, true), (13, false), (14, true), (15, true)] (fun W => Below wt.heap.size wt W) (by kernel_rfl) rfl (by kernel_rfl) (fun _ _ _ _ _ h => h) (Below.refl _ wt).drew (fun hH => ?_)
                  repeat (first | (refine sch_yes (v := ?_) rfl rfl ?_ hH ?_; rotate_left; (focus ((intro W hW; obtain ⟨x0, x1, x2, x3⟩ := HS.out W hW; go_simp) <;> with_reducible rfl)); simp only [Act.put, List.setIfInBounds_toArray, List.set_cons_zero, List.set_cons_succ]) | (refine sch_no rfl rfl hH ?_; simp only [Act.put, List.setIfInBounds_toArray, List.set_cons_zero, List.set_cons_succ]))
                  refine sch_call rfl rfl (fun K' hK' => ?_)
                  go_wp2_with (go_at_call 28; refine (T1.out _ (Hk.out.trans (hH.mono Hk.out.size))).mono ?_; rintro e w4 ⟨rfl, hB4⟩)
                  have hD4 := hH.trans (hB4.mono hH.size)
                  refine hK'.out _ _ hD4 ?_
                  clear hK' hB4 hH
                  have hH := hD4
                  repeat (first | (refine sch_yes (v := ?_) rfl rfl ?_ hH ?_; rotate_left; (focus ((intro W hW; obtain ⟨x0, x1, x2, x3⟩ := HS.out W hW; go_simp) <;> with_reducible rfl)); simp only [Act.put, List.setIfInBounds_toArray, List.set_cons_zero, List.set_cons_succ]) | (refine sch_no rfl rfl hH ?_; simp only [Act.put, List.setIfInBounds_toArray, List.set_cons_zero, List.set_cons_succ]))
                  refine sch_done ?_
                  have H4 := Lib.hid (Hk.out.trans (hD4.mono Hk.out.size))
                  clear hH HS T1 hD4
                  go_wp2
                  go_ret
                  exact ⟨by rw [Hq.out]; rfl, H4.out⟩
                · have hf0' : decide (fx < 0) = false := decide_eq_false hf0
                  have Hq := Lib.hid (Hgood.out (by rw [Hfx.out]; exact decide_eq_true (by omega)))
                  clear Hbad Hgood hf0 Hfx
                  go_wp2
                  refine sch_start [(0, true), (1, true), (2, true), (3, true), (4, true), (5, true), (6, true), (7, true), (8, true), (9, true), (10, true), (11, true), (12, true), (13, false), (14, true), (15, true)] (fun W => Below wt.heap.size wt W) (by kernel_rfl) rfl (by kernel_rfl) (fun _ _ _ _ _ h => h) (Below.refl _ wt).drew (fun hH => ?_)
                  repeat (first | (refine sch_yes (v := ?_) rfl rfl ?_ hH ?_; rotate_left; (focus ((intro W hW; obtain ⟨x0, x1, x2, x3⟩ := HS.out W hW; go_simp) <;> with_reducible rfl)); simp only [Act.put, List.setIfInBounds_toArray, List.set_cons_zero, List.set_cons_succ]) | (refine sch_no rfl rfl hH ?_; simp only [Act.put, List.setIfInBounds_toArray, List.set_cons_zero, List.set_cons_succ]))
                  refine sch_call rfl rfl (fun K' hK' => ?_)
                  go_wp2_with (go_at_call 28; refine (T1.out _ (Hk.out.trans (hH.mono Hk.out.size))).mono ?_; rintro e w4 ⟨rfl, hB4⟩)
                  have hD4 := hH.trans (hB4.mono hH.size)
                  refine hK'.out _ _ hD4 ?_
                  clear hK' hB4 hH
                  have hH := hD4
                  repeat (first | (refine sch_yes (v := ?_) rfl rfl ?_ hH ?_; rotate_left; (focus ((intro W hW; obtain ⟨x0, x1, x2, x3⟩ := HS.out W hW; go_simp) <;> with_reducible rfl)); simp only [Act.put, List.setIfInBounds_toArray, List.set_cons_zero, List.set_cons_succ]) | (refine sch_no rfl rfl hH ?_; simp only [Act.put, List.setIfInBounds_toArray, List.set_cons_zero, List.set_cons_succ]))
                  refine sch_done ?_
                  have HD4 := Lib.hid (hF.out.trans (hD4.mono hF.out.size))
                  clear hH HS T1 hD4
                  go_wp2
                  go_roundw
                  case rel => exact ⟨j + 1, by omega, by go_num, HD4, Hq⟩
                  case measure => simp [intOf]; omega
            · obtain rfl : j = K := by omega
              have Hq := Lib.hid (Hall4.out hrt.out)
              clear Hall4 hrt
              go_wp2
              go_ret
              exact ⟨by rw [Hq.out]; rfl, Hk.out⟩
end Go.Proofs.Ytembafogbfcajaa

/- The contract of the document's own Root (layer 8): just what the plain function tells. Nothing that was there is changed. Condition: names of at most 1048576 bytes. -/
namespace Go.Proofs.Ytembafogbfcajaa
open Go.RowKit

/-- Of a row of numbers of the call's own one is set. -/
theorem ints_set {w : World} {base n c J : Nat} {A : Option Addr} {l : List Int} (x : Int) (h : w.ownsRow base 3 1 (.slice A n c) n (ints l)) (hJ : J < n) :
    ∃ gb y, A = some ⟨gb, 0, none⟩ ∧ base ≤ gb ∧ gb < w.heap.size ∧ w.cell? ⟨gb, J, none⟩ = some y ∧ w.frozen? ⟨gb, J, none⟩ = false ∧ (w.setCell ⟨gb, J, none⟩ (.int .i64 x)).ownsRow base 3 1 (.slice A n c) n (ints (l.set J x)) := by
  have hl := h.1
  rcases h.2 with ⟨_, h0⟩ | ⟨g, cap, cur, hv, hb, hg, hnc, hcm, hcs, htk⟩
  · omega
  · injection hv with e1 _ e3
    subst e1 e3
    have B : Blk w g 3 cur.toList := hg
    have hcl : cur.toList.length = c := by simpa using hcs
    refine ⟨g, _, rfl, hb, B.lt, B.cell (j := J) (List.getElem?_eq_getElem (by omega)), B.frozen J, ?_⟩
    have B2 := B.set J (.int .i64 x)
    refine ⟨by simpa using hl, .inr ⟨g, c, (cur.toList.set J (.int .i64 x)).toArray, rfl, hb, B2, hnc, hcm, by simpa using hcs, ?_⟩⟩
    have e : ints (l.set J x) = (ints l).set J (.int .i64 x) := by rw [ints, ints, List.map_set]
    rw [e, ← htk, List.take_set]
theorem keep_one {w : World} {b p : Nat} {u : Value} {k : Nat} (h : k ≠ b) : (w.setCell ⟨b, p, none⟩ u).heap[k]? = w.heap[k]? := Below.heap_setCell _ _ _ _ h

set_option maxRecDepth 100000 in
set_option maxHeartbeats 4000000 in
theorem rroot_any (A B C : Option Addr) (N c M d K e : Nat) (g : Gr) (i id : Int) (w : World) (h : rGr (All w) w [.slice A N c, .slice B M d, .slice C K e] g) (htame : tameS g.1) (hid : (Lit.int .i64 id).wf = true) :
    Calls Try.prog 17 #[.agg #[.slice A N c, .slice B M d, .slice C K e], .int .i64 i, .int .i64 id] w fun e w' => ∃ A1 c1 B1 d1 C1 e1, e = .returned (.tuple #[.agg #[.slice A1 (rootN g i id).1.length c1, .slice B1 (rootN g i id).2.1.length d1, .slice C1 (rootN g i id).2.2.length e1], .int .i64 (rootE g i id)]) ∧
      rGr (All w') w' [.slice A1 (rootN g i id).1.length c1, .slice B1 (rootN g i id).2.1.length d1, .slice C1 (rootN g i id).2.2.length e1] (rootN g i id) ∧ Below w.heap.size w w' := by
  obtain ⟨i0, hi, hz0, hz1, hz2⟩ := info_parts info_int
  obtain ⟨hN, -, -⟩ := slice_len (rGr_open h).1
  obtain ⟨hM, -, -⟩ := slice_len (rGr_open h).2.1
  obtain ⟨hK, -, -⟩ := slice_len (rGr_open h).2.2
  have hB0 : Below w.heap.size w ((w.alloc (.cells #[.slice A N c, .slice B M d, .slice C K e] 28)).alloc (.cells #[.slice none 0 0, .slice none 0 0, .slice none 0 0] 28)) := ((Below.refl _ w).alloc (Nat.le_refl _) _).alloc (by simp) _
  obtain ⟨p1, p2⟩ := blk_two w 28 28 [.slice A N c, .slice B M d, .slice C K e] [.slice none 0 0, .slice none 0 0, .slice none 0 0]
  have TM := Lib.hid (rgmay_any A B C N c M d K e g _ (gr_below hB0 h) htame)
  have TG := Lib.hid (fun W (hW : Below w.heap.size w W) => rgfind_any A B C N c M d K e g id W (gr_below hW h))
  have HB0 := Lib.hid hB0
  have s0 : w.heap.size + 2 = ((w.alloc (.cells #[.slice A N c, .slice B M d, .slice C K e] 28)).alloc (.cells #[.slice none 0 0, .slice none 0 0, .slice none 0 0] 28)).heap.size := by simp
  have Hh := Lib.hid h
  have HN := Lib.hid hN
  have HM := Lib.hid hM
  have HK := Lib.hid hK
  clear hB0 htame h hN hM hK
  have HE : Hid (rootE g i id = if mayG g = true then if (decide (0 ≤ i) && decide (i < 3)) = true ∧ i ≤ (K : Int) ∧ rootG g.2.1 id = true then 0 else 11 else 1) := Lib.hid (by rw [← HK.out]; rfl)
  have hlow := findG_low g.2.1 id
  have Hrg : Hid (rootG g.2.1 id = (decide (id = -1) || decide (findG g.2.1 id ≠ -1))) := Lib.hid rfl
  have hK3 : mayG g = true → K ≤ 3 := fun hm => by have := (mayG_parts hm).2.2.2.1; have := HK.out; omega
  have Hwf := Lib.hid ((ids_rd (rGr_open Hh.out).2.2).2)
  generalize hmm : mayG g = mm at *
  clear hmm
  generalize hfx : findG g.2.1 id = fx at *
  clear hfx
  go_enter Try.func17, Try.ntmps17
  go_wp2_with fail
  refine TM.out.mono ?_
  rintro e w1 ⟨rfl, hB1⟩
  have H1 := Lib.hid (HB0.out.trans (hB1.mono HB0.out.size))
  have l1 : w.heap.size + 2 ≤ w1.heap.size := by rw [s0]; exact hB1.size
  replace p1 := p1.to hB1
  replace p2 := p2.to hB1
  clear hB1 HB0 s0 TM
  cases mm
  · have Hr : Hid (rootE g i id = 1) := Lib.hid (by rw [HE.out]; rfl)
    clear HE Hrg hK3
    have x0 := p1.cell (j := 0) rfl
    have x1 := p1.cell (j := 1) rfl
    have x2 := p1.cell (j := 2) rfl
    have y0 := p2.cell (j := 0) rfl
    have y1 := p2.cell (j := 1) rfl
    have y2 := p2.cell (j := 2) rfl
    have g0 := p2.frozen 0
    have g1 := p2.frozen 1
    have g2 := p2.frozen 2
    go_wp2
    have P9 := ((p2.set 0 (.slice A N c)).set 1 (.slice B M d)).set 2 (.slice C K e)
    refine ret_cell1 (d := .struct _) (cs := [.slice A N c, .slice B M d, .slice C K e]) rfl P9 rfl rfl rfl rfl rfl ?_
    have hBz := ((H1.out.setCell (p := ⟨w.heap.size + 1, 0, none⟩) (by simp) (.slice A N c)).setCell (p := ⟨w.heap.size + 1, 1, none⟩) (by simp) (.slice B M d)).setCell (p := ⟨w.heap.size + 1, 2, none⟩) (by simp) (.slice C K e)
    have hnn : rootN g i id = g := if_neg (by rw [Hr.out]; decide)
    rw [hnn, Hr.out, HN.out, HM.out, HK.out]
    exact ⟨A, c, B, d, C, e, rfl, gr_below hBz Hh.out, hBz⟩
  replace hK3 := hK3 rfl
  have HE2 : Hid (rootE g i id = if (decide (0 ≤ i) && decide (i < 3)) = true ∧ i ≤ (K : Int) ∧ rootG g.2.1 id = true then 0 else 11) := Lib.hid (by rw [HE.out]; rfl)
  clear HE
  by_cases c1 : i < 0
  · have k1 : decide (i < 0) = true := decide_eq_true c1
    have Hr : Hid (rootE g i id = 11) := Lib.hid (by rw [HE2.out, if_neg (by rw [decide_eq_false (by omega : ¬ 0 ≤ i)]; simp)])
    clear HE2 Hrg c1
    have x0 := p1.cell (j := 0) rfl
    have x1 := p1.cell (j := 1) rfl
    have x2 := p1.cell (j := 2) rfl
    have y0 := p2.cell (j := 0) rfl
    have y1 := p2.cell (j := 1) rfl
    have y2 := p2.cell (j := 2) rfl
    have g0 := p2.frozen 0
    have g1 := p2.frozen 1
    have g2 := p2.frozen 2
    go_wp2
    have P9 := ((p2.set 0 (.slice A N c)).set 1 (.slice B M d)).set 2 (.slice C K e)
    refine ret_cell1 (d := .struct _) (cs := [.slice A N c, .slice B M d, .slice C K e]) rfl P9 rfl rfl rfl rfl rfl ?_
    have hBz := ((H1.out.setCell (p := ⟨w.heap.size + 1, 0, none⟩) (by simp) (.slice A N c)).setCell (p := ⟨w.heap.size + 1, 1, none⟩) (by simp) (.slice B M d)).setCell (p := ⟨w.heap.size + 1, 2, none⟩) (by simp) (.slice C K e)
    have hnn : rootN g i id = g := if_neg (by rw [Hr.out]; decide)
    rw [hnn, Hr.out, HN.out, HM.out, HK.out]
    exact ⟨A, c, B, d, C, e, rfl, gr_below hBz Hh.out, hBz⟩
  have k1 : decide (i < 0) = false := decide_eq_false c1
  by_cases c2 : 3 ≤ i
  · have k2 : decide (3 ≤ i) = true := decide_eq_true c2
    have Hr : Hid (rootE g i id = 11) := Lib.hid (by rw [HE2.out, if_neg (by rw [decide_eq_false (by omega : ¬ i < 3)]; simp)])
    clear HE2 Hrg c1 c2
    have x0 := p1.cell (j := 0) rfl
    have x1 := p1.cell (j := 1) rfl
    have x2 := p1.cell (j := 2) rfl
    have y0 := p2.cell (j := 0) rfl
    have y1 := p2.cell (j := 1) rfl
    have y2 := p2.cell (j := 2) rfl
    have g0 := p2.frozen 0
    have g1 := p2.frozen 1
    have g2 := p2.frozen 2
    go_wp2
    have P9 := ((p2.set 0 (.slice A N c)).set 1 (.slice B M d)).set 2 (.slice C K e)
    refine ret_cell1 (d := .struct _) (cs := [.slice A N c, .slice B M d, .slice C K e]) rfl P9 rfl rfl rfl rfl rfl ?_
    have hBz := ((H1.out.setCell (p := ⟨w.heap.size + 1, 0, none⟩) (by simp) (.slice A N c)).setCell (p := ⟨w.heap.size + 1, 1, none⟩) (by simp) (.slice B M d)).setCell (p := ⟨w.heap.size + 1, 2, none⟩) (by simp) (.slice C K e)
    have hnn : rootN g i id = g := if_neg (by rw [Hr.out]; decide)
    rw [hnn, Hr.out, HN.out, HM.out, HK.out]
    exact ⟨A, c, B, d, C, e, rfl, gr_below hBz Hh.out, hBz⟩
  have k2 : decide (3 ≤ i) = false := decide_eq_false c2
  by_cases c3 : (K : Int) < i
  · have k3 : decide ((K : Int) < i) = true := decide_eq_true c3
    have Hr : Hid (rootE g i id = 11) := Lib.hid (by rw [HE2.out, if_neg (fun hh => by have := hh.2.1; omega)])
    clear HE2 Hrg c1 c2 c3
    have x0 := p1.cell (j := 0) rfl
    have x1 := p1.cell (j := 1) rfl
    have x2 := p1.cell (j := 2) rfl
    have y0 := p2.cell (j := 0) rfl
    have y1 := p2.cell (j := 1) rfl
    have y2 := p2.cell (j := 2) rfl
    have g0 := p2.frozen 0
    have g1 := p2.frozen 1
    have g2 := p2.frozen 2
    go_wp2
    have P9 := ((p2.set 0 (.slice A N c)).set 1 (.slice B M d)).set 2 (.slice C K e)
    refine ret_cell1 (d := .struct _) (cs := [.slice A N c, .slice B M d, .slice C K e]) rfl P9 rfl rfl rfl rfl rfl ?_
    have hBz := ((H1.out.setCell (p := ⟨w.heap.size + 1, 0, none⟩) (by simp) (.slice A N c)).setCell (p := ⟨w.heap.size + 1, 1, none⟩) (by simp) (.slice B M d)).setCell (p := ⟨w.heap.size + 1, 2, none⟩) (by simp) (.slice C K e)
    have hnn : rootN g i id = g := if_neg (by rw [Hr.out]; decide)
    rw [hnn, Hr.out, HN.out, HM.out, HK.out]
    exact ⟨A, c, B, d, C, e, rfl, gr_below hBz Hh.out, hBz⟩
  have k3 : decide ((K : Int) < i) = false := decide_eq_false c3
  have Hrt : Hid (rootG g.2.1 id = true → rootE g i id = 0) := Lib.hid fun hh => by rw [HE2.out, if_pos ⟨by rw [decide_eq_true (by omega : 0 ≤ i), decide_eq_true (by omega : i < 3)]; rfl, by omega, hh⟩]
  have Hrf : Hid (rootG g.2.1 id = false → rootE g i id = 11) := Lib.hid fun hh => by rw [HE2.out, if_neg (fun h2 => by have := h2.2.2; rw [hh] at this; cases this)]
  clear HE2
  obtain ⟨I, rfl⟩ : ∃ I : Nat, i = (I : Int) := ⟨i.toNat, by omega⟩
  have hIK : I ≤ K := by omega
  have hI3 : I < 3 := by omega
  clear c1 c2 c3
  -- what is left when all may be
  have k3' : decide (K < I) = false := decide_eq_false (by omega)
  by_cases c4 : id = -1
  · have k4 : (id != -1) = false := by simp [c4]
    have Hr := Lib.hid (Hrt.out (by rw [Hrg.out, decide_eq_true c4]; rfl))
    clear Hrt Hrf Hrg c4 TG
    have hrd1 := (ids_rd (rGr_open (gr_below H1.out Hh.out)).2.2).1
    have d2 := p1.cell (j := 2) rfl
    have sIK : wrap64 ((I : Int)) = (I : Int) := by unfold wrap64; omega
    have hI0 : (0 : Int) ≤ (I : Int) := Int.natCast_nonneg I
    by_cases hIe : I = K
    · have kI : ((I : Int) == (K : Int)) = true := by simp [hIe]
      have Hn : Hid (rootN g (I : Int) id = (g.1, g.2.1, (g.2.2 ++ [id]).set I id)) := Lib.hid (by
        rw [rootN, if_pos Hr.out, HK.out, if_pos (by omega)]
        rw [hIe, ← HK.out, List.set_append_right _ _ (Nat.le_refl _), Nat.sub_self]
        rfl)
      have Hwl : Hid (∀ n ∈ (g.2.2 ++ [id]).set I id, (Lit.int .i64 n).wf = true) := Lib.hid (fun n hn => by
        rcases List.mem_or_eq_of_mem_set hn with hn | rfl
        · rcases List.mem_append.1 hn with h1 | h1
          · exact Hwf.out n h1
          · simp at h1; subst h1; exact hid
        · exact hid)
      subst hIe
      have e4 : (I : Int) < ((I + 1 : Nat) : Int) := by omega
      have e5 : (I : Int) < (I : Int) + 1 := by omega
      go_wp2_with (first
        | (at_builtin; refine wpList_app rfl (.const (.slice none 0 0)) (.tmp 39) 26 rfl w1.heap.size 3 i0 (.int .i64 0) 8 Try.underlying26 hi hz0 hz1 hz2 rfl (.slice none 0 0) 0 [] rfl (World.ownsRow_nil _ _ _ _) C I e (ints g.2.2) rfl (by rw [ints_length]; exact HK.out) hrd1 (ints_one _) (by simp only [maxLen]; omega) (by omega) (Nat.le_refl _) ?_; intro v3 w3 hown3 hg3 _
           rw [Nat.zero_add, List.nil_append] at hown3
           obtain ⟨A3, c3, rfl, -⟩ := own_in hown3
           have hB3 : Below w1.heap.size w1 w3 := (Below.refl _ _).grown hg3 (Nat.le_refl _) (fun k hk => by simp [Value.ownBlock] at hk)
           have q1 := p1.to hB3
           have q2 := p2.to hB3
           have f2 := q1.frozen 2
           have e2 := q1.cell (j := 2) rfl
           have r1 := q1.set 2 (.slice A3 I c3)
           have r2 := q2.other ⟨w.heap.size, 2, none⟩ (.slice A3 I c3) (by simp)
           have e3 := r1.cell (j := 2) rfl
           have own3 := (own_keep hown3 (w' := w3.setCell ⟨w.heap.size, 2, none⟩ (.slice A3 I c3)) (fun b n1 n2 => keep_one (by omega)))
           have Hrd : Hid (Rd ((w3.setCell ⟨w.heap.size, 2, none⟩ (.slice A3 I c3)).alloc (.cells #[.int .i64 id] 3)) (some ⟨w3.heap.size, 0, none⟩) (ints [id])) := Lib.hid (by have h9 := lit_ints (w3.setCell ⟨w.heap.size, 2, none⟩ (.slice A3 I c3)) [id]; rw [show (w3.setCell ⟨w.heap.size, 2, none⟩ (.slice A3 I c3)).heap.size = w3.heap.size by simp] at h9; exact h9)
           have l3 := hB3.size
           have h3 := ((H1.out.trans (hB3.mono H1.out.size)).setCell (p := ⟨w.heap.size, 2, none⟩) (Nat.le_refl _) (.slice A3 I c3))
           have Hown := Lib.hid own3
           have HB3 := Lib.hid h3
           clear own3 h3 hown3 hg3)
        | (at_builtin; refine wpList_app rfl (.tmp 48) (.tmp 50) 26 rfl w1.heap.size 3 i0 (.int .i64 0) 8 Try.underlying26 hi hz0 hz1 hz2 rfl (.slice A3 I c3) I (ints g.2.2) rfl (Hown.out.alloc _) (some ⟨w3.heap.size, 0, none⟩) 1 1 (ints [id]) rfl rfl Hrd.out (ints_one _) (by simp only [maxLen]; omega) (by omega) (by simp; omega) ?_; intro v4 w4 hown4 hg4 hv4
           obtain ⟨A4, c4, rfl, -⟩ := own_in hown4
           have hlt := Hown.out.lt
           have hG4 : (w3.setCell ⟨w.heap.size, 2, none⟩ (.slice A3 I c3)).grownBy w4 (Value.slice A3 I c3).ownBlock := (World.grownBy_alloc _ _ _).trans hg4
           have hB4 := HB3.out.grown hG4 HB3.out.size (fun k hk => by have := (hlt k hk).1; omega)
           have s1 : Blk w4 w.heap.size 28 [.slice A N c, .slice B M d, .slice A3 I c3] := (hG4.block _ r1.lt (fun e => by have := (hlt _ e.symm).1; omega)).trans r1
           have s2 : Blk w4 (w.heap.size + 1) 28 [.slice none 0 0, .slice none 0 0, .slice none 0 0] := (hG4.block _ r2.lt (fun e => by have := (hlt _ e.symm).1; omega)).trans r2
           have f3 := s1.frozen 2
           have e6 := s1.cell (j := 2) rfl
           have u1 := s1.set 2 (.slice A4 (I + 1) c4)
           have u2 := s2.other ⟨w.heap.size, 2, none⟩ (.slice A4 (I + 1) c4) (by simp)
           have own5 := (own_keep hown4 (w' := w4.setCell ⟨w.heap.size, 2, none⟩ (.slice A4 (I + 1) c4)) (fun b n1 n2 => keep_one (by omega)))
           rw [← ints_append] at own5
           have hB5 := Lib.hid (hB4.setCell (p := ⟨w.heap.size, 2, none⟩) (Nat.le_refl _) (.slice A4 (I + 1) c4))
           obtain ⟨gb, yy, hAe, hgb, hgl, hyc, hyf, hown6⟩ := ints_set id own5 (J := I) (by omega)
           subst hAe
           have t1 := u1.other ⟨gb, I, none⟩ (.int .i64 id) (by show w.heap.size ≠ gb; omega)
           have t2 := u2.other ⟨gb, I, none⟩ (.int .i64 id) (by show w.heap.size + 1 ≠ gb; omega)
           have e2 := u1.cell (j := 2) rfl
           have xx0 := t1.cell (j := 0) rfl
           have xx1 := t1.cell (j := 1) rfl
           have xx2 := t1.cell (j := 2) rfl
           have y0 := t2.cell (j := 0) rfl
           have y1 := t2.cell (j := 1) rfl
           have y2 := t2.cell (j := 2) rfl
           have g0 := t2.frozen 0
           have g1 := t2.frozen 1
           have g2 := t2.frozen 2
           have HS6 := Lib.hid hown6)
        | fail)
      have P9 := ((t2.set 0 (.slice A N c)).set 1 (.slice B M d)).set 2 (.slice (some ⟨gb, 0, none⟩) (I + 1) c4)
      refine ret_cell1 (d := .struct _) (cs := [.slice A N c, .slice B M d, .slice (some ⟨gb, 0, none⟩) (I + 1) c4]) rfl P9 rfl rfl rfl rfl rfl ?_
      have hBz := (((hB5.out.setCell (p := ⟨gb, I, none⟩) (by show w.heap.size ≤ gb; omega) (.int .i64 id)).setCell (p := ⟨w.heap.size + 1, 0, none⟩) (by simp) (.slice A N c)).setCell (p := ⟨w.heap.size + 1, 1, none⟩) (by simp) (.slice B M d)).setCell (p := ⟨w.heap.size + 1, 2, none⟩) (by simp) (.slice (some ⟨gb, 0, none⟩) (I + 1) c4)
      have hown9 := own_keep HS6.out (w' := ((((w4.setCell ⟨w.heap.size, 2, none⟩ (.slice (some ⟨gb, 0, none⟩) (I + 1) c4)).setCell ⟨gb, I, none⟩ (.int .i64 id)).setCell ⟨w.heap.size + 1, 0, none⟩ (.slice A N c)).setCell ⟨w.heap.size + 1, 1, none⟩ (.slice B M d)).setCell ⟨w.heap.size + 1, 2, none⟩ (.slice (some ⟨gb, 0, none⟩) (I + 1) c4)) (fun b n1 n2 => by rw [keep_one (by omega), keep_one (by omega), keep_one (by omega)])
      have hll : ((g.2.2 ++ [id]).set I id).length = (I + 1) := by rw [List.length_set, List.length_append, HK.out]; rfl
      have hwl : ∀ n ∈ (g.2.2 ++ [id]).set I id, (Lit.int .i64 n).wf = true := fun n hn => Hwl.out n hn
      have hri := rIds_stays.to (Keeps.mono fun b hb => hb.2) (ids_own hown9 hll hwl)
      rw [Hn.out, Hr.out]
      refine ⟨A, c, B, d, some ⟨gb, 0, none⟩, c4, ?_, ?_, hBz⟩
      · rw [HN.out, HM.out, hll]
        rfl
      · rw [HN.out, HM.out, hll]
        exact rGr_mk (rGr_open (gr_below hBz Hh.out)).1 (rGr_open (gr_below hBz Hh.out)).2.1 hri
    · have kI : ((I : Int) == (K : Int)) = false := by rw [beq_eq_false_iff_ne]; omega
      have Hn : Hid (rootN g (I : Int) id = (g.1, g.2.1, g.2.2.set I id)) := Lib.hid (by
        rw [rootN, if_pos Hr.out, HK.out, if_neg (by omega), Int.toNat_natCast])
      have Hwl : Hid (∀ n ∈ g.2.2.set I id, (Lit.int .i64 n).wf = true) := Lib.hid (fun n hn => by
        rcases List.mem_or_eq_of_mem_set hn with hn | rfl
        · exact Hwf.out n hn
        · exact hid)
      have e4 : (I : Int) < (K : Int) := by omega
      go_wp2_with (first
        | (at_builtin; refine wpList_app rfl (.const (.slice none 0 0)) (.tmp 39) 26 rfl w1.heap.size 3 i0 (.int .i64 0) 8 Try.underlying26 hi hz0 hz1 hz2 rfl (.slice none 0 0) 0 [] rfl (World.ownsRow_nil _ _ _ _) C K e (ints g.2.2) rfl (by rw [ints_length]; exact HK.out) hrd1 (ints_one _) (by simp only [maxLen]; omega) (by omega) (Nat.le_refl _) ?_; intro v3 w3 hown3 hg3 _
           rw [Nat.zero_add, List.nil_append] at hown3
           obtain ⟨A3, c3, rfl, -⟩ := own_in hown3
           have hB3 : Below w1.heap.size w1 w3 := (Below.refl _ _).grown hg3 (Nat.le_refl _) (fun k hk => by simp [Value.ownBlock] at hk)
           have q1 := p1.to hB3
           have q2 := p2.to hB3
           have f2 := q1.frozen 2
           have e8 := q1.cell (j := 2) rfl
           have r1 := q1.set 2 (.slice A3 K c3)
           have r2 := q2.other ⟨w.heap.size, 2, none⟩ (.slice A3 K c3) (by simp)
           have own3 := (own_keep hown3 (w' := w3.setCell ⟨w.heap.size, 2, none⟩ (.slice A3 K c3)) (fun b n1 n2 => keep_one (by omega)))
           have l3 := hB3.size
           have hB5 := Lib.hid ((H1.out.trans (hB3.mono H1.out.size)).setCell (p := ⟨w.heap.size, 2, none⟩) (Nat.le_refl _) (.slice A3 K c3))
           obtain ⟨gb, yy, hAe, hgb, hgl, hyc, hyf, hown6⟩ := ints_set id own3 (J := I) (by omega)
           subst hAe
           have t1 := r1.other ⟨gb, I, none⟩ (.int .i64 id) (by show w.heap.size ≠ gb; omega)
           have t2 := r2.other ⟨gb, I, none⟩ (.int .i64 id) (by show w.heap.size + 1 ≠ gb; omega)
           have e2 := r1.cell (j := 2) rfl
           have xx0 := t1.cell (j := 0) rfl
           have xx1 := t1.cell (j := 1) rfl
           have xx2 := t1.cell (j := 2) rfl
           have y0 := t2.cell (j := 0) rfl
           have y1 := t2.cell (j := 1) rfl
           have y2 := t2.cell (j := 2) rfl
           have g0 := t2.frozen 0
           have g1 := t2.frozen 1
           have g2 := t2.frozen 2
           have HS6 := Lib.hid hown6)
        | fail)
      have P9 := ((t2.set 0 (.slice A N c)).set 1 (.slice B M d)).set 2 (.slice (some ⟨gb, 0, none⟩) K c3)
      refine ret_cell1 (d := .struct _) (cs := [.slice A N c, .slice B M d, .slice (some ⟨gb, 0, none⟩) K c3]) rfl P9 rfl rfl rfl rfl rfl ?_
      have hBz := (((hB5.out.setCell (p := ⟨gb, I, none⟩) (by show w.heap.size ≤ gb; omega) (.int .i64 id)).setCell (p := ⟨w.heap.size + 1, 0, none⟩) (by simp) (.slice A N c)).setCell (p := ⟨w.heap.size + 1, 1, none⟩) (by simp) (.slice B M d)).setCell (p := ⟨w.heap.size + 1, 2, none⟩) (by simp) (.slice (some ⟨gb, 0, none⟩) K c3)
      have hown9 := own_keep HS6.out (w' := ((((w3.setCell ⟨w.heap.size, 2, none⟩ (.slice (some ⟨gb, 0, none⟩) K c3)).setCell ⟨gb, I, none⟩ (.int .i64 id)).setCell ⟨w.heap.size + 1, 0, none⟩ (.slice A N c)).setCell ⟨w.heap.size + 1, 1, none⟩ (.slice B M d)).setCell ⟨w.heap.size + 1, 2, none⟩ (.slice (some ⟨gb, 0, none⟩) K c3)) (fun b n1 n2 => by rw [keep_one (by omega), keep_one (by omega), keep_one (by omega)])
      have hll : (g.2.2.set I id).length = K := by rw [List.length_set]; exact HK.out
      have hwl : ∀ n ∈ g.2.2.set I id, (Lit.int .i64 n).wf = true := fun n hn => Hwl.out n hn
      have hri := rIds_stays.to (Keeps.mono fun b hb => hb.2) (ids_own hown9 hll hwl)
      rw [Hn.out, Hr.out]
      refine ⟨A, c, B, d, some ⟨gb, 0, none⟩, c3, ?_, ?_, hBz⟩
      · rw [HN.out, HM.out, hll]
        rfl
      · rw [HN.out, HM.out, hll]
        exact rGr_mk (rGr_open (gr_below hBz Hh.out)).1 (rGr_open (gr_below hBz Hh.out)).2.1 hri
  have k4 : (id != -1) = true := by simp [c4]
  have x0 := p1.cell (j := 0) rfl
  have x1 := p1.cell (j := 1) rfl
  have x2 := p1.cell (j := 2) rfl
  go_wp2_with fail
  refine (TG.out _ H1.out).mono ?_
  rintro e w2 ⟨rfl, hB2⟩
  have H2 := Lib.hid (H1.out.trans (hB2.mono H1.out.size))
  have l2 : w.heap.size + 2 ≤ w2.heap.size := Nat.le_trans l1 hB2.size
  replace p1 := p1.to hB2
  replace p2 := p2.to hB2
  clear hB2 H1 l1 x0 x1 x2 TG
  by_cases c5 : fx < 0
  · have k5 : decide (fx < 0) = true := decide_eq_true c5
    have Hr := Lib.hid (Hrf.out (by rw [Hrg.out, decide_eq_false c4, decide_eq_false (by omega : ¬ fx ≠ -1)]; rfl))
    clear Hrt Hrf Hrg c4 c5
    have x0 := p1.cell (j := 0) rfl
    have x1 := p1.cell (j := 1) rfl
    have x2 := p1.cell (j := 2) rfl
    have y0 := p2.cell (j := 0) rfl
    have y1 := p2.cell (j := 1) rfl
    have y2 := p2.cell (j := 2) rfl
    have g0 := p2.frozen 0
    have g1 := p2.frozen 1
    have g2 := p2.frozen 2
    go_wp2
    have P9 := ((p2.set 0 (.slice A N c)).set 1 (.slice B M d)).set 2 (.slice C K e)
    refine ret_cell1 (d := .struct _) (cs := [.slice A N c, .slice B M d, .slice C K e]) rfl P9 rfl rfl rfl rfl rfl ?_
    have hBz := ((H2.out.setCell (p := ⟨w.heap.size + 1, 0, none⟩) (by simp) (.slice A N c)).setCell (p := ⟨w.heap.size + 1, 1, none⟩) (by simp) (.slice B M d)).setCell (p := ⟨w.heap.size + 1, 2, none⟩) (by simp) (.slice C K e)
    have hnn : rootN g (I : Int) id = g := if_neg (by rw [Hr.out]; decide)
    rw [hnn, Hr.out, HN.out, HM.out, HK.out]
    exact ⟨A, c, B, d, C, e, rfl, gr_below hBz Hh.out, hBz⟩
  have k5 : decide (fx < 0) = false := decide_eq_false c5
  have Hr := Lib.hid (Hrt.out (by rw [Hrg.out, decide_eq_true (by omega : fx ≠ -1), Bool.or_true]))
  clear Hrt Hrf Hrg c4 c5
  have hrd1 := (ids_rd (rGr_open (gr_below H2.out Hh.out)).2.2).1
  have d2 := p1.cell (j := 2) rfl
  have sIK : wrap64 ((I : Int)) = (I : Int) := by unfold wrap64; omega
  have hI0 : (0 : Int) ≤ (I : Int) := Int.natCast_nonneg I
  by_cases hIe : I = K
  · have kI : ((I : Int) == (K : Int)) = true := by simp [hIe]
    have Hn : Hid (rootN g (I : Int) id = (g.1, g.2.1, (g.2.2 ++ [id]).set I id)) := Lib.hid (by
      rw [rootN, if_pos Hr.out, HK.out, if_pos (by omega)]
      rw [hIe, ← HK.out, List.set_append_right _ _ (Nat.le_refl _), Nat.sub_self]
      rfl)
    have Hwl : Hid (∀ n ∈ (g.2.2 ++ [id]).set I id, (Lit.int .i64 n).wf = true) := Lib.hid (fun n hn => by
      rcases List.mem_or_eq_of_mem_set hn with hn | rfl
      · rcases List.mem_append.1 hn with h1 | h1
        · exact Hwf.out n h1
        · simp at h1; subst h1; exact hid
      · exact hid)
    subst hIe
    have e4 : (I : Int) < ((I + 1 : Nat) : Int) := by omega
    have e5 : (I : Int) < (I : Int) + 1 := by omega
    go_wp2_with (first
      | (at_builtin; refine wpList_app rfl (.const (.slice none 0 0)) (.tmp 39) 26 rfl w2.heap.size 3 i0 (.int .i64 0) 8 Try.underlying26 hi hz0 hz1 hz2 rfl (.slice none 0 0) 0 [] rfl (World.ownsRow_nil _ _ _ _) C I e (ints g.2.2) rfl (by rw [ints_length]; exact HK.out) hrd1 (ints_one _) (by simp only [maxLen]; omega) (by omega) (Nat.le_refl _) ?_; intro v3 w3 hown3 hg3 _
         rw [Nat.zero_add, List.nil_append] at hown3
         obtain ⟨A3, c3, rfl, -⟩ := own_in hown3
         have hB3 : Below w2.heap.size w2 w3 := (Below.refl _ _).grown hg3 (Nat.le_refl _) (fun k hk => by simp [Value.ownBlock] at hk)
         have q1 := p1.to hB3
         have q2 := p2.to hB3
         have f2 := q1.frozen 2
         have e2 := q1.cell (j := 2) rfl
         have r1 := q1.set 2 (.slice A3 I c3)
         have r2 := q2.other ⟨w.heap.size, 2, none⟩ (.slice A3 I c3) (by simp)
         have e3 := r1.cell (j := 2) rfl
         have own3 := (own_keep hown3 (w' := w3.setCell ⟨w.heap.size, 2, none⟩ (.slice A3 I c3)) (fun b n1 n2 => keep_one (by omega)))
         have Hrd : Hid (Rd ((w3.setCell ⟨w.heap.size, 2, none⟩ (.slice A3 I c3)).alloc (.cells #[.int .i64 id] 3)) (some ⟨w3.heap.size, 0, none⟩) (ints [id])) := Lib.hid (by have h9 := lit_ints (w3.setCell ⟨w.heap.size, 2, none⟩ (.slice A3 I c3)) [id]; rw [show (w3.setCell ⟨w.heap.size, 2, none⟩ (.slice A3 I c3)).heap.size = w3.heap.size by simp] at h9; exact h9)
         have l3 := hB3.size
         have h3 := ((H2.out.trans (hB3.mono H2.out.size)).setCell (p := ⟨w.heap.size, 2, none⟩) (Nat.le_refl _) (.slice A3 I c3))
         have Hown := Lib.hid own3
         have HB3 := Lib.hid h3
         clear own3 h3 hown3 hg3)
      | (at_builtin; refine wpList_app rfl (.tmp 48) (.tmp 50) 26 rfl w2.heap.size 3 i0 (.int .i64 0) 8 Try.underlying26 hi hz0 hz1 hz2 rfl (.slice A3 I c3) I (ints g.2.2) rfl (Hown.out.alloc _) (some ⟨w3.heap.size, 0, none⟩) 1 1 (ints [id]) rfl rfl Hrd.out (ints_one _) (by simp only [maxLen]; omega) (by omega) (by simp; omega) ?_; intro v4 w4 hown4 hg4 hv4
         obtain ⟨A4, c4, rfl, -⟩ := own_in hown4
         have hlt := Hown.out.lt
         have hG4 : (w3.setCell ⟨w.heap.size, 2, none⟩ (.slice A3 I c3)).grownBy w4 (Value.slice A3 I c3).ownBlock := (World.grownBy_alloc _ _ _).trans hg4
         have hB4 := HB3.out.grown hG4 HB3.out.size (fun k hk => by have := (hlt k hk).1; omega)
         have s1 : Blk w4 w.heap.size 28 [.slice A N c, .slice B M d, .slice A3 I c3] := (hG4.block _ r1.lt (fun e => by have := (hlt _ e.symm).1; omega)).trans r1
         have s2 : Blk w4 (w.heap.size + 1) 28 [.slice none 0 0, .slice none 0 0, .slice none 0 0] := (hG4.block _ r2.lt (fun e => by have := (hlt _ e.symm).1; omega)).trans r2
         have f3 := s1.frozen 2
         have e6 := s1.cell (j := 2) rfl
         have u1 := s1.set 2 (.slice A4 (I + 1) c4)
         have u2 := s2.other ⟨w.heap.size, 2, none⟩ (.slice A4 (I + 1) c4) (by simp)
         have own5 := (own_keep hown4 (w' := w4.setCell ⟨w.heap.size, 2, none⟩ (.slice A4 (I + 1) c4)) (fun b n1 n2 => keep_one (by omega)))
         rw [← ints_append] at own5
         have hB5 := Lib.hid (hB4.setCell (p := ⟨w.heap.size, 2, none⟩) (Nat.le_refl _) (.slice A4 (I + 1) c4))
         obtain ⟨gb, yy, hAe, hgb, hgl, hyc, hyf, hown6⟩ := ints_set id own5 (J := I) (by omega)
         subst hAe
         have t1 := u1.other ⟨gb, I, none⟩ (.int .i64 id) (by show w.heap.size ≠ gb; omega)
         have t2 := u2.other ⟨gb, I, none⟩ (.int .i64 id) (by show w.heap.size + 1 ≠ gb; omega)
         have e2 := u1.cell (j := 2) rfl
         have xx0 := t1.cell (j := 0) rfl
         have xx1 := t1.cell (j := 1) rfl
         have xx2 := t1.cell (j := 2) rfl
         have y0 := t2.cell (j := 0) rfl
         have y1 := t2.cell (j := 1) rfl
         have y2 := t2.cell (j := 2) rfl
         have g0 := t2.frozen 0
         have g1 := t2.frozen 1
         have g2 := t2.frozen 2
         have HS6 := Lib.hid hown6)
      | fail)
    have P9 := ((t2.set 0 (.slice A N c)).set 1 (.slice B M d)).set 2 (.slice (some ⟨gb, 0, none⟩) (I + 1) c4)
    refine ret_cell1 (d := .struct _) (cs := [.slice A N c, .slice B M d, .slice (some ⟨gb, 0, none⟩) (I + 1) c4]) rfl P9 rfl rfl rfl rfl rfl ?_
    have hBz := (((hB5.out.setCell (p := ⟨gb, I, none⟩) (by show w.heap.size ≤ gb; omega) (.int .i64 id)).setCell (p := ⟨w.heap.size + 1, 0, none⟩) (by simp) (.slice A N c)).setCell (p := ⟨w.heap.size + 1, 1, none⟩) (by simp) (.slice B M d)).setCell (p := ⟨w.heap.size + 1, 2, none⟩) (by simp) (.slice (some ⟨gb, 0, none⟩) (I + 1) c4)
    have hown9 := own_keep HS6.out (w' := ((((w4.setCell ⟨w.heap.size, 2, none⟩ (.slice (some ⟨gb, 0, none⟩) (I + 1) c4)).setCell ⟨gb, I, none⟩ (.int .i64 id)).setCell ⟨w.heap.size + 1, 0, none⟩ (.slice A N c)).setCell ⟨w.heap.size + 1, 1, none⟩ (.slice B M d)).setCell ⟨w.heap.size + 1, 2, none⟩ (.slice (some ⟨gb, 0, none⟩) (I + 1) c4)) (fun b n1 n2 => by rw [keep_one (by omega), keep_one (by omega), keep_one (by omega)])
    have hll : ((g.2.2 ++ [id]).set I id).length = (I + 1) := by rw [List.length_set, List.length_append, HK.out]; rfl
    have hwl : ∀ n ∈ (g.2.2 ++ [id]).set I id, (Lit.int .i64 n).wf = true := fun n hn => Hwl.out n hn
    have hri := rIds_stays.to (Keeps.mono fun b hb => hb.2) (ids_own hown9 hll hwl)
    rw [Hn.out, Hr.out]
    refine ⟨A, c, B, d, some ⟨gb, 0, none⟩, c4, ?_, ?_, hBz⟩
    · rw [HN.out, HM.out, hll]
      rfl
    · rw [HN.out, HM.out, hll]
      exact rGr_mk (rGr_open (gr_below hBz Hh.out)).1 (rGr_open (gr_below hBz Hh.out)).2.1 hri
  · have kI : ((I : Int) == (K : Int)) = false := by rw [beq_eq_false_iff_ne]; omega
    have Hn : Hid (rootN g (I : Int) id = (g.1, g.2.1, g.2.2.set I id)) := Lib.hid (by
      rw [rootN, if_pos Hr.out, HK.out, if_neg (by omega), Int.toNat_natCast])
    have Hwl : Hid (∀ n ∈ g.2.2.set I id, (Lit.int .i64 n).wf = true) := Lib.hid (fun n hn => by
      rcases List.mem_or_eq_of_mem_set hn with hn | rfl
      · exact Hwf.out n hn
      · exact hid)
    have e4 : (I : Int) < (K : Int) := by omega
    go_wp2_with (first
      | (at_builtin; refine wpList_app rfl (.const (.slice none 0 0)) (.tmp 39) 26 rfl w2.heap.size 3 i0 (.int .i64 0) 8 Try.underlying26 hi hz0 hz1 hz2 rfl (.slice none 0 0) 0 [] rfl (World.ownsRow_nil _ _ _ _) C K e (ints g.2.2) rfl (by rw [ints_length]; exact HK.out) hrd1 (ints_one _) (by simp only [maxLen]; omega) (by omega) (Nat.le_refl _) ?_; intro v3 w3 hown3 hg3 _
         rw [Nat.zero_add, List.nil_append] at hown3
         obtain ⟨A3, c3, rfl, -⟩ := own_in hown3
         have hB3 : Below w2.heap.size w2 w3 := (Below.refl _ _).grown hg3 (Nat.le_refl _) (fun k hk => by simp [Value.ownBlock] at hk)
         have q1 := p1.to hB3
         have q2 := p2.to hB3
         have f2 := q1.frozen 2
         have e8 := q1.cell (j := 2) rfl
         have r1 := q1.set 2 (.slice A3 K c3)
         have r2 := q2.other ⟨w.heap.size, 2, none⟩ (.slice A3 K c3) (by simp)
         have own3 := (own_keep hown3 (w' := w3.setCell ⟨w.heap.size, 2, none⟩ (.slice A3 K c3)) (fun b n1 n2 => keep_one (by omega)))
         have l3 := hB3.size
         have hB5 := Lib.hid ((H2.out.trans (hB3.mono H2.out.size)).setCell (p := ⟨w.heap.size, 2, none⟩) (Nat.le_refl _) (.slice A3 K c3))
         obtain ⟨gb, yy, hAe, hgb, hgl, hyc, hyf, hown6⟩ := ints_set id own3 (J := I) (by omega)
         subst hAe
         have t1 := r1.other ⟨gb, I, none⟩ (.int .i64 id) (by show w.heap.size ≠ gb; omega)
         have t2 := r2.other ⟨gb, I, none⟩ (.int .i64 id) (by show w.heap.size + 1 ≠ gb; omega)
         have e2 := r1.cell (j := 2) rfl
         have xx0 := t1.cell (j := 0) rfl
         have xx1 := t1.cell (j := 1) rfl
         have xx2 := t1.cell (j := 2) rfl
         have y0 := t2.cell (j := 0) rfl
         have y1 := t2.cell (j := 1) rfl
         have y2 := t2.cell (j := 2) rfl
         have g0 := t2.frozen 0
         have g1 := t2.frozen 1
         have g2 := t2.frozen 2
         have HS6 := Lib.hid hown6)
      | fail)
    have P9 := ((t2.set 0 (.slice A N c)).set 1 (.slice B M d)).set 2 (.slice (some ⟨gb, 0, none⟩) K c3)
    refine ret_cell1 (d := .struct _) (cs := [.slice A N c, .slice B M d, .slice (some ⟨gb, 0, none⟩) K c3]) rfl P9 rfl rfl rfl rfl rfl ?_
    have hBz := (((hB5.out.setCell (p := ⟨gb, I, none⟩) (by show w.heap.size ≤ gb; omega) (.int .i64 id)).setCell (p := ⟨w.heap.size + 1, 0, none⟩) (by simp) (.slice A N c)).setCell (p := ⟨w.heap.size + 1, 1, none⟩) (by simp) (.slice B M d)).setCell (p := ⟨w.heap.size + 1, 2, none⟩) (by simp) (.slice (some ⟨gb, 0, none⟩) K c3)
    have hown9 := own_keep HS6.out (w' := ((((w3.setCell ⟨w.heap.size, 2, none⟩ (.slice (some ⟨gb, 0, none⟩) K c3)).setCell ⟨gb, I, none⟩ (.int .i64 id)).setCell ⟨w.heap.size + 1, 0, none⟩ (.slice A N c)).setCell ⟨w.heap.size + 1, 1, none⟩ (.slice B M d)).setCell ⟨w.heap.size + 1, 2, none⟩ (.slice (some ⟨gb, 0, none⟩) K c3)) (fun b n1 n2 => by rw [keep_one (by omega), keep_one (by omega), keep_one (by omega)])
    have hll : (g.2.2.set I id).length = K := by rw [List.length_set]; exact HK.out
    have hwl : ∀ n ∈ g.2.2.set I id, (Lit.int .i64 n).wf = true := fun n hn => Hwl.out n hn
    have hri := rIds_stays.to (Keeps.mono fun b hb => hb.2) (ids_own hown9 hll hwl)
    rw [Hn.out, Hr.out]
    refine ⟨A, c, B, d, some ⟨gb, 0, none⟩, c3, ?_, ?_, hBz⟩
    · rw [HN.out, HM.out, hll]
      rfl
    · rw [HN.out, HM.out, hll]
      exact rGr_mk (rGr_open (gr_below hBz Hh.out)).1 (rGr_open (gr_below hBz Hh.out)).2.1 hri
end Go.Proofs.Ytembafogbfcajaa
