/- The contracts of what mayObj asks of each field, and of slices.EqualFunc with it. Nothing that was there is changed. No condition. -/
import Derived.Test.YtembafogbfcajaaGrHave
namespace Go.Proofs.Ytembafogbfcajaa
open Go.RowKit

set_option maxRecDepth 100000 in
theorem have1_any (A B C : Option Addr) (N c M d K e : Nat) (g : Gr) (x y s : ByteArray) (f : Fld) (v : Vl) (G : Nat) (w : World) (hG : Blk w G 28 [.slice A N c, .slice B M d, .slice C K e]) (h : rGr (All w) w [.slice A N c, .slice B M d, .slice C K e] g) (hy : byt y = f.2.2) (hs : byt s = v.2.1) :
    Calls Try.prog 97 #[.agg #[.string x, .int .i64 f.2.1, .string y], .agg #[.int .i64 v.1, .string s, .int .i64 v.2.2], .pointer (some ⟨G, 0, none⟩)] w fun e w' => e = .returned (.bool (haveG g f v)) ∧ Below w.heap.size w w' := by
  have hB : ∀ u v, Below w.heap.size w ((w.alloc (.cells u 51)).alloc (.cells v 30)) := fun u v => ((Below.refl _ w).alloc (Nat.le_refl _) _).alloc (by simp) _
  have T1 := Lib.hid (fun W (hW : Below w.heap.size w W) => mayHave_any A B C N c M d K e g x y s f v W (gr_below hW h) hy hs)
  have c0 : ∀ u v, ((w.alloc (.cells u 51)).alloc (.cells v 30)).cell? ⟨G, 0, none⟩ = some (.slice A N c) := fun u v => ((hB u v).cell (p := ⟨G, 0, none⟩) hG.lt).trans (hG.cell (j := 0) rfl)
  have c1 : ∀ u v, ((w.alloc (.cells u 51)).alloc (.cells v 30)).cell? ⟨G, 1, none⟩ = some (.slice B M d) := fun u v => ((hB u v).cell (p := ⟨G, 1, none⟩) hG.lt).trans (hG.cell (j := 1) rfl)
  have c2 : ∀ u v, ((w.alloc (.cells u 51)).alloc (.cells v 30)).cell? ⟨G, 2, none⟩ = some (.slice C K e) := fun u v => ((hB u v).cell (p := ⟨G, 2, none⟩) hG.lt).trans (hG.cell (j := 2) rfl)
  clear h
  generalize haveG g f v = r at *
  generalize f.2.1 = k at *
  generalize v.1 = n1 at *
  generalize v.2.2 = n2 at *
  go_enter Try.func97, Try.ntmps97
  go_wp2_with fail
  refine (T1.out _ (hB _ _)).mono ?_
  rintro e w1 ⟨rfl, hB1⟩
  go_wp2
  go_ret
  exact ⟨rfl, (hB _ _).trans (hB1.mono (hB _ _).size)⟩

set_option maxRecDepth 100000 in
set_option maxHeartbeats 2000000 in
theorem equalFV_any (A B C : Option Addr) (N c M d K e : Nat) (g : Gr) (A2 A3 : Option Addr) (n c2 m c3 : Nat) (fs : List Fld) (vs : List Vl) (G : Nat) (w : World) (hG : Blk w G 28 [.slice A N c, .slice B M d, .slice C K e]) (h : rGr (All w) w [.slice A N c, .slice B M d, .slice C K e] g) (h1 : rFlds (All w) w [.slice A2 n c2] fs) (h2 : rVals (All w) w [.slice A3 m c3] vs) :
    Calls Try.prog 96 #[.slice A2 n c2, .slice A3 m c3, .func (.func 97) #[] #[.pointer (some ⟨G, 0, none⟩)]] w fun e w' => e = .returned (.bool (all2 (haveG g) fs vs)) ∧ Below w.heap.size w w' := by
  obtain ⟨hn, hnc, hcm⟩ := slice_len h1
  obtain ⟨hm, hmd, hdm⟩ := slice_len h2
  simp only [maxLen] at hcm hdm
  by_cases hnm : n = m
  · subst hnm
    have hnn : ((n : Int) != (n : Int)) = false := by simp
    have H0 : Hid (all2 (haveG g) fs vs = all2 (haveG g) (fs.drop 0) (vs.drop 0)) := Lib.hid (by rw [List.drop_zero, List.drop_zero])
    generalize all2 (haveG g) fs vs = r at *
    go_enter Try.func96, Try.ntmps96
    go_wp2
    go_loopw [17] (fun iv w' => ∃ i : Nat, i ≤ n ∧ iv = .int .i64 (i : Int) ∧ Below w.heap.size w w' ∧ Hid (r = all2 (haveG g) (fs.drop i) (vs.drop i))) (fun iv _ => n - (intOf iv).toNat)
    case atStart => exact ⟨0, by omega, rfl, Below.refl _ _, H0⟩
    case round =>
      rename_i iv wr
      obtain ⟨i, hi, rfl, hB, hr⟩ := hrel
      clear H0
      by_cases hin : i < n
      · have hl1 : fs[i]? = some fs[i] := List.getElem?_eq_getElem (by omega)
        have hl2 : vs[i]? = some vs[i] := List.getElem?_eq_getElem (by omega)
        obtain ⟨b1, off1, x1, y1, rfl, hb1, p1, p2, p3, e1, e2, _, _, _⟩ := fld_at (flds_below hB h1) hl1
        obtain ⟨b2, off2, s2, rfl, hb2, q1, q2, q3, f1, _, _, _⟩ := val_at (vals_below hB h2) hl2
        have hil : (i : Int) < (n : Int) := by omega
        have hi0 : (0 : Int) ≤ (i : Int) := by omega
        have hr' := hr.out
        rw [all2_at hl1 hl2] at hr'
        have Hr := Lib.hid hr'
        have HB := Lib.hid hB
        have hB1 : ∀ u v, Below wr.heap.size wr ((wr.alloc (.cells u 51)).alloc (.cells v 30)) := fun u v => ((Below.refl _ wr).alloc (Nat.le_refl _) _).alloc (by simp) _
        have T1 := Lib.hid (fun W (hW : Below w.heap.size w W) => have1_any A B C N c M d K e g x1 y1 s2 fs[i] vs[i] G W (hG.below hG.lt hW) (gr_below hW h) e2 f1)
        have q1' : ∀ u, (wr.alloc (.cells u 51)).cell? ⟨b2, off2 + i * 3, none⟩ = some (.int .i64 vs[i].1) := fun u => (((Below.refl _ wr).alloc (Nat.le_refl _) (.cells u 51)).cell (p := ⟨b2, off2 + i * 3, none⟩) hb2).trans q1
        have q2' : ∀ u, (wr.alloc (.cells u 51)).cell? ⟨b2, off2 + i * 3 + 1, none⟩ = some (.string s2) := fun u => (((Below.refl _ wr).alloc (Nat.le_refl _) (.cells u 51)).cell (p := ⟨b2, off2 + i * 3 + 1, none⟩) hb2).trans q2
        have q3' : ∀ u, (wr.alloc (.cells u 51)).cell? ⟨b2, off2 + i * 3 + 2, none⟩ = some (.int .i64 vs[i].2.2) := fun u => (((Below.refl _ wr).alloc (Nat.le_refl _) (.cells u 51)).cell (p := ⟨b2, off2 + i * 3 + 2, none⟩) hb2).trans q3
        clear hr hr' hl1 hl2 h1 h2 hB e1 e2 f1 h hG q1 q2 q3
        generalize haveG g fs[i] vs[i] = m1 at *
        generalize fs[i].2.1 = k1 at *
        generalize vs[i].1 = k2 at *
        generalize vs[i].2.2 = k3 at *
        cases m1
        · go_wp2_with (first | (go_at_call 97; refine (T1.out _ (HB.out.trans ((hB1 _ _).mono HB.out.size))).mono ?_; rintro e w1 ⟨rfl, hB2⟩) | fail)
          go_ret
          exact ⟨by rw [Hr.out]; rfl, HB.out.trans (((hB1 _ _).trans (hB2.mono (hB1 _ _).size)).mono HB.out.size)⟩
        · rw [Bool.true_and] at Hr
          go_wp2_with (first | (go_at_call 97; refine (T1.out _ (HB.out.trans ((hB1 _ _).mono HB.out.size))).mono ?_; rintro e w1 ⟨rfl, hB2⟩) | fail)
          go_roundw
          case rel => exact ⟨i + 1, by omega, by go_num, HB.out.trans (((hB1 _ _).trans (hB2.mono (hB1 _ _).size)).mono HB.out.size), Hr⟩
          case measure => simp [intOf]; omega
      · obtain rfl : i = n := by omega
        have hr' := hr.out
        rw [all2_end (by omega) (by omega)] at hr'
        clear hr
        go_wp2
        go_ret
        exact ⟨by rw [hr']; rfl, hB⟩
  · have hd : all2 (haveG g) fs vs = false := all2_ne (by omega)
    have hne : ((n : Int) != (m : Int)) = true := by rw [bne_iff_ne]; omega
    rw [hd]
    go_enter Try.func96, Try.ntmps96
    go_wp2
    go_ret
    exact ⟨rfl, Below.refl _ _⟩

end Go.Proofs.Ytembafogbfcajaa
