/- GraphNew: a new object stands last, by an Id that was not there, each field as at the beginning; nothing comes to it, and all that was come to still is. No condition. -/
import Derived.Test.YtembafogbfcajaaGrAwake
import Derived.Test.YtembafogbfcajaaGrNewPlain
import Derived.Test.YtembafogbfcajaaSched
import Derived.BigQuiet
namespace Go.Proofs.Ytembafogbfcajaa
open Go.RowKit

/-- What an object of zeros has at a place. -/
theorem zero_at {l : List Fld} {k : Nat} {f : Fld} (h : l[k]? = some f) : (l.map fun f => zeroV f.2.1)[k]? = some (zeroV f.2.1) := by
  rw [List.getElem?_map, h]; rfl
theorem zero_cells (k : Int) : (zeroV k).1 = 0 ∧ (zeroV k).2.1 = [] := by
  unfold zeroV; split <;> exact ⟨rfl, rfl⟩

set_option maxRecDepth 100000 in
set_option maxHeartbeats 4000000 in
theorem graphNew_walk (w : World) (cs : Array Value) (g : Gr) (h : rGr (All w) w cs.toList g) (t : Int) (ht0 : -9223372036854775808 ≤ t) (ht1 : t ≤ 9223372036854775807) :
    Calls Try.prog 8 #[.agg cs, .int .i64 t] w fun e w' => e = .returned (.bool true) ∧ Below w.heap.size w w' := by
  obtain ⟨A, c, B, d, C, e, rfl, h⟩ := gr_arg h
  have htt : (Lit.int .i64 t).wf = true := WalkArith.wf_i64 ⟨ht0, ht1⟩
  have hB0 : Below w.heap.size w (w.alloc (.cells #[.slice A g.1.length c, .slice B g.2.1.length d, .slice C g.2.2.length e] 28)) := (Below.refl _ w).alloc (Nat.le_refl _) _
  have p1 := Blk.new w 28 [.slice A g.1.length c, .slice B g.2.1.length d, .slice C g.2.2.length e]
  have TF := Lib.hid (fun W (hW : Below w.heap.size w W) => gfew_any A B C g.1.length c g.2.1.length d g.2.2.length e g W (gr_below hW h))
  have TM := Lib.hid (fun W (hW : Below w.heap.size w W) => gmay_any A B C g.1.length c g.2.1.length d g.2.2.length e g W (gr_below hW h))
  have TN := Lib.hid (fun W (hW : Below w.heap.size w W) hm => gnew_any A B C g.1.length c g.2.1.length d g.2.2.length e g t W (gr_below hW h) (tame_may h hm) htt)
  have TC := Lib.hid (fun W (hW : Below w.heap.size w W) => greach_any A B C g.1.length c g.2.1.length d g.2.2.length e g W (gr_below hW h))
  have TG := Lib.hid (fun W (hW : Below w.heap.size w W) x => gfind_any A B C g.1.length c g.2.1.length d g.2.2.length e g x W (gr_below hW h))
  have Hg := Lib.hid (fun W (hW : Below w.heap.size w W) => gr_below hW h)
  have HB0 := Lib.hid hB0
  have hMn : g.2.1.length ≤ 9223372036854775807 := by have := (slice_len (rGr_open h).2.1).2; simp only [maxLen] at this; omega
  have hNn : g.1.length ≤ 9223372036854775807 := by have := (slice_len (rGr_open h).1).2; simp only [maxLen] at this; omega
  clear hB0 h
  generalize fewG g = few at *
  generalize hm : mayG g = may at *
  generalize hN : g.1.length = N at *
  generalize hM : g.2.1.length = M at *
  generalize hK : g.2.2.length = K at *
  have HN := Lib.hid hN
  have HM := Lib.hid hM
  clear hN hM hK
  go_enter Try.func8, Try.ntmps8
  go_wp2_with fail
  refine (gawake_any _).mono ?_
  rintro e w1 ⟨rfl, hB1⟩
  have H1 := Lib.hid (HB0.out.trans (hB1.mono HB0.out.size))
  replace p1 := p1.to hB1
  clear hB1 HB0
  have c0 := p1.cell (j := 0) rfl
  have c1 := p1.cell (j := 1) rfl
  have c2 := p1.cell (j := 2) rfl
  go_wp2_with fail
  refine (TF.out _ H1.out).mono ?_
  rintro e w2 ⟨rfl, hB2⟩
  have H2 := Lib.hid (H1.out.trans (hB2.mono H1.out.size))
  replace p1 := p1.to hB2
  clear hB2 H1 c0 c1 c2 TF
  cases few
  · go_wp2
    go_ret
    exact ⟨rfl, H2.out⟩
  have c0 := p1.cell (j := 0) rfl
  have c1 := p1.cell (j := 1) rfl
  have c2 := p1.cell (j := 2) rfl
  go_wp2_with fail
  refine (TM.out _ H2.out).mono ?_
  rintro e w3 ⟨rfl, hB3⟩
  have H3 := Lib.hid (H2.out.trans (hB3.mono H2.out.size))
  replace p1 := p1.to hB3
  clear hB3 H2 c0 c1 c2 TM
  have c0 := p1.cell (j := 0) rfl
  have c1 := p1.cell (j := 1) rfl
  have c2 := p1.cell (j := 2) rfl
  cases may
  · go_wp2
    go_ret
    exact ⟨rfl, H3.out⟩
  have TN2 := Lib.hid (fun W hW => TN.out W hW (by trivial))
  have Hobj := Lib.hid (fun o ho => mayG_obj (g := g) hm (o := o) ho)
  have Htype := Lib.hid (fun ht => new_type (g := g) (t := t) hm ht)
  have Hwhy := Lib.hid (fun ht he => new_why (g := g) (t := t) hm ht he)
  have Hnone := Lib.hid (new_none hm)
  have Hlast := Lib.hid (fun o ho => new_last (g := g) (o := o) hm ho)
  have Hreach := Lib.hid (fun he => new_reach (g := g) (t := t) he)
  clear TN hm
  go_wp2_with fail
  refine (TN2.out _ H3.out).mono ?_
  rintro e w4 ⟨A4, c4, B4, d4, C4, f4, rfl, h4, hB4⟩
  have hB5 : Below w4.heap.size w4 (w4.alloc (.cells #[.slice A4 (newG g t).1.length c4, .slice B4 (newG g t).2.1.length d4, .slice C4 (newG g t).2.2.length f4] 28)) := (Below.refl _ w4).alloc (Nat.le_refl _) _
  have p2 := Blk.new w4 28 [.slice A4 (newG g t).1.length c4, .slice B4 (newG g t).2.1.length d4, .slice C4 (newG g t).2.2.length f4]
  have hX := hB4.trans (hB5.mono hB4.size)
  have H5 := Lib.hid (H3.out.trans (hX.mono H3.out.size))
  replace p1 := p1.to hX
  have HB5 := Lib.hid hB5
  have Hh := Lib.hid h4
  clear c0 c1 c2 hB4 hB5 hX h4 H3 TN2
  by_cases hty : 0 ≤ t ∧ t < (N : Int)
  case neg =>
    have he6 := Htype.out (by rw [HN.out]; exact hty)
    rw [he6]
    clear Hh Hreach Hwhy Hlast HB5 p2 TG TC Hg
    generalize (newG g t).1.length = N4 at *
    generalize (newG g t).2.1.length = M4 at *
    generalize (newG g t).2.2.length = K4 at *
    generalize newI g t = i4 at *
    by_cases htn : t < 0
    · have htn' : decide (t < 0) = true := decide_eq_true htn
      clear htn hty
      go_wp2
      go_ret
      exact ⟨rfl, H5.out⟩
    · have htn' : decide (t < 0) = false := decide_eq_false htn
      have htN' : decide ((N : Int) ≤ t) = true := decide_eq_true (by omega)
      have c0 : (w4.alloc (.cells #[.slice A4 N4 c4, .slice B4 M4 d4, .slice C4 K4 f4] 28)).cell? ⟨w.heap.size, 0, none⟩ = some (.slice A N c) := p1.cell (j := 0) rfl
      clear htn hty
      go_wp2
      go_ret
      exact ⟨rfl, H5.out⟩
  obtain ⟨tn, rfl⟩ : ∃ tn : Nat, t = (tn : Int) := ⟨t.toNat, by omega⟩
  have htn' : decide ((tn : Int) < 0) = false := decide_eq_false (by omega)
  have htN' : decide ((N : Int) ≤ (tn : Int)) = false := decide_eq_false (by omega)
  have htN5 : decide (N ≤ tn) = false := decide_eq_false (by omega)
  have htl : (tn : Int) < (N : Int) := hty.2
  have ht00 : (0 : Int) ≤ (tn : Int) := hty.1
  have c0 := p1.cell (j := 0) rfl
  have c1 := p1.cell (j := 1) rfl
  have c2 := p1.cell (j := 2) rfl
  by_cases he : newE g (tn : Int) = 0
  case neg =>
    have hwy := Hwhy.out (by rw [HN.out]; exact hty) he
    rw [HM.out] at hwy
    have he' : (newE g (tn : Int) != 0) = true := by simp [he]
    have Hob := Lib.hid (fun o ho => ob_at (i := M - 1) (o := o) (rGr_open (Hg.out _ H5.out)).2.1 ho)
    clear Hh Hreach Hwhy Hlast HB5 p2 TG TC Hg Htype he hty
    generalize newE g (tn : Int) = er at *
    generalize (newG g (tn : Int)).1.length = N4 at *
    generalize (newG g (tn : Int)).2.1.length = M4 at *
    generalize (newG g (tn : Int)).2.2.length = K4 at *
    generalize newI g (tn : Int) = i4 at *
    by_cases h8 : M = 8
    · subst h8
      clear hwy
      go_wp2
      go_ret
      exact ⟨rfl, H5.out⟩
    · obtain ⟨o, ho, hoi⟩ := hwy.resolve_left h8
      obtain ⟨b, off, A2, c2', rfl, hb, x0, -, -, -, -, -⟩ := Hob.out o ho
      have hM0 : M ≠ 0 := fun e0 => by
        subst e0
        have := HM.out
        rw [List.length_eq_zero_iff.1 this] at ho
        simp at ho
      obtain ⟨m, rfl⟩ : ∃ m, M = m + 1 := ⟨M - 1, by omega⟩
      have e1 : wrap64 ((m : Int) + 1 - 1) = (m : Int) := by unfold wrap64; omega
      have e2 : (((m + 1 : Nat) : Int) == 8) = false := by rw [beq_eq_false_iff_ne]; omega
      have e2' : ((m : Int) + 1 == 8) = false := by rw [beq_eq_false_iff_ne]; omega
      have e4 : (m : Int) < ((m + 1 : Nat) : Int) := by omega
      have e5 : (0 : Int) ≤ (m : Int) := by omega
      have e6 : decide ((0 : Int) < ((m + 1 : Nat) : Int)) = true := decide_eq_true (by omega)
      rw [Nat.add_sub_cancel, hoi] at x0
      clear hwy ho hoi Hob h8 hM0
      go_wp2
      go_ret
      exact ⟨rfl, H5.out⟩
  have hg4 : newG g (tn : Int) = (g.1, g.2.1 ++ [(nextG g.2.1, (tn : Int), (fldsG g.1 (tn : Int)).map fun f => zeroV f.2.1)], g.2.2) := by rw [newG, if_pos he]
  have hi4 : newI g (tn : Int) = nextG g.2.1 := by rw [newI, if_pos he]
  have Hrl := Lib.hid (Hreach.out he)
  have Hfl := Hlast.out (nextG g.2.1, (tn : Int), (fldsG g.1 (tn : Int)).map fun f => zeroV f.2.1) rfl
  have TH := Lib.hid (fun W (hW : Below w4.heap.size w4 W) => gfind_any A4 B4 C4 (newG g (tn : Int)).1.length c4 (newG g (tn : Int)).2.1.length d4 (newG g (tn : Int)).2.2.length f4 (newG g (tn : Int)) (nextG g.2.1) W (gr_below hW Hh.out))
  have TD := Lib.hid (fun W (hW : Below w4.heap.size w4 W) => greach_any A4 B4 C4 (newG g (tn : Int)).1.length c4 (newG g (tn : Int)).2.1.length d4 (newG g (tn : Int)).2.2.length f4 (newG g (tn : Int)) W (gr_below hW Hh.out))
  have hfn : findG (newG g (tn : Int)).2.1 (nextG g.2.1) = (M : Int) := by rw [hg4, ← HM.out]; exact Hfl
  have hln : (newG g (tn : Int)).2.1.length = M + 1 := by rw [hg4, ← HM.out]; simp
  have hat : (newG g (tn : Int)).2.1[M]? = some (nextG g.2.1, (tn : Int), (fldsG g.1 (tn : Int)).map fun f => zeroV f.2.1) := by rw [hg4, ← HM.out]; simp
  have TGn := Lib.hid (fun W hW => TG.out W hW (nextG g.2.1))
  rw [Hnone.out] at TGn
  rw [hfn] at TH
  rw [he, hi4]
  obtain ⟨b, off, A2, cv, hB4e, hb, x0, x1, x2, hvs, -, -⟩ := ob_at (rGr_open Hh.out).2.1 hat
  subst hB4e
  have Hh2 := Lib.hid (rGr_open Hh.out).2.1
  clear Htype Hwhy Hlast Hreach Hfl hfn hat Hobj hg4 hi4 he Hh hty Hnone
  obtain ⟨ty, hty⟩ : ∃ ty, g.1[tn]? = some ty := ⟨_, List.getElem?_eq_getElem (by have := HN.out; omega)⟩
  rw [fldsG_at rfl hty] at x2 hvs
  rw [List.length_map] at x2 hvs
  obtain ⟨bt, offt, st, AF, cF, rfl, hbt, -, y1, -, -, hfs⟩ := typ_at (rGr_open (Hg.out _ H5.out)).1 hty
  have Hty := Lib.hid hty
  clear hty
  have Hvs := Lib.hid hvs
  have Hfs := Lib.hid hfs
  have x0' := (HB5.out.cell (p := ⟨b, off + M * 3, none⟩) hb).trans x0
  have x1' := (HB5.out.cell (p := ⟨b, off + M * 3 + 1, none⟩) hb).trans x1
  have x2' := (HB5.out.cell (p := ⟨b, off + M * 3 + 2, none⟩) hb).trans x2
  have hM1 : M ≤ 9223372036854775806 := by have := (slice_len Hh2.out).2; simp only [maxLen] at this; omega
  have e1 : wrap64 ((M : Int) + 1 - 1) = (M : Int) := by unfold wrap64; omega
  have e2 : wrap64 ((M : Int) + 1) = (M : Int) + 1 := by unfold wrap64; omega
  have e4 : (M : Int) < ((M + 1 : Nat) : Int) := Int.ofNat_lt.2 (Nat.lt_succ_self M)
  have e5 : (0 : Int) ≤ (M : Int) := Int.natCast_nonneg M
  clear hvs hfs x0 x1 x2 Hh2
  generalize hrh : (reachG (newG g (tn : Int))).length = rh at *
  generalize hrg : (reachG g).length = rg at *
  generalize hM4 : (newG g (tn : Int)).2.1.length = M4 at *
  generalize (newG g (tn : Int)).1.length = N4 at *
  generalize (newG g (tn : Int)).2.2.length = K4 at *
  generalize nextG g.2.1 = id at *
  subst hln
  generalize hfl : ty.2.length = fl at *
  have Hfl := Lib.hid hfl
  clear hfl hM4
  have hfln : fl ≤ 9223372036854775807 := by have := (slice_len Hvs.out).2; simp only [maxLen] at this; omega
  have e3 : (((M + 1 : Nat) : Int) != (M : Int) + 1) = false := by simp
  have k0 := p2.cell (j := 0) rfl
  have k1 := p2.cell (j := 1) rfl
  have k2 := p2.cell (j := 2) rfl
  obtain rfl := Hrl.out
  clear hrh hrg Hrl
  have hB6 : Below w4.heap.size w4 ((w4.alloc (.cells #[.slice A4 N4 c4, .slice (some ⟨b, off, none⟩) (M + 1) d4, .slice C4 K4 f4] 28)).alloc (.cells #[.int .i64 id, .int .i64 (tn : Int), .slice A2 fl cv] 49)) := ((Below.refl _ w4).alloc (Nat.le_refl _) _).alloc (by simp) _
  have hB7 : Below (w4.alloc (.cells #[.slice A4 N4 c4, .slice (some ⟨b, off, none⟩) (M + 1) d4, .slice C4 K4 f4] 28)).heap.size (w4.alloc (.cells #[.slice A4 N4 c4, .slice (some ⟨b, off, none⟩) (M + 1) d4, .slice C4 K4 f4] 28)) ((w4.alloc (.cells #[.slice A4 N4 c4, .slice (some ⟨b, off, none⟩) (M + 1) d4, .slice C4 K4 f4] 28)).alloc (.cells #[.int .i64 id, .int .i64 (tn : Int), .slice A2 fl cv] 49)) := (Below.refl _ _).alloc (Nat.le_refl _) _
  obtain ⟨r2, r3⟩ := blk_two w4 28 49 [.slice A4 N4 c4, .slice (some ⟨b, off, none⟩) (M + 1) d4, .slice C4 K4 f4] [.int .i64 id, .int .i64 (tn : Int), .slice A2 fl cv]
  have p3 := p1.to hB7
  have y2 := (hB7.cell (p := ⟨bt, offt + tn * 2 + 1, none⟩) hbt).trans y1
  have H6 := Lib.hid (H5.out.trans (hB7.mono H5.out.size))
  have Hfs6 := Lib.hid (flds_below hB7 Hfs.out)
  have HB6 := Lib.hid hB6
  have hbt6 : bt < ((w4.alloc (.cells #[.slice A4 N4 c4, .slice (some ⟨b, off, none⟩) (M + 1) d4, .slice C4 K4 f4] 28)).alloc (.cells #[.int .i64 id, .int .i64 (tn : Int), .slice A2 fl cv] 49)).heap.size := Nat.lt_of_lt_of_le hbt hB7.size
  clear hB6 hB7 Hfs H5 hbt
  go_wp2
  clear c0 c1 c2 k0 k1 k2 x0' x1' x2' y1 p1 p2 HB5
  generalize (w4.alloc (.cells #[.slice A4 N4 c4, .slice (some ⟨b, off, none⟩) (M + 1) d4, .slice C4 K4 f4] 28)).alloc (.cells #[.int .i64 id, .int .i64 (tn : Int), .slice A2 fl cv] 49) = w6 at *
  have q1 : ((M : Int) != (M : Int)) = false := by simp
  have q2 : ((tn : Int) != (tn : Int)) = false := by simp
  have q3 : ((fl : Int) != (fl : Int)) = false := by simp
  have HS := Lib.hid (fun (W : World) (hW : Below w6.heap.size w6 W) => And.intro (And.intro ((p3.to hW).cell (j := 0) rfl) (And.intro ((p3.to hW).cell (j := 1) rfl) ((p3.to hW).cell (j := 2) rfl)))
    (And.intro (And.intro ((r2.to hW).cell (j := 0) rfl) (And.intro ((r2.to hW).cell (j := 1) rfl) ((r2.to hW).cell (j := 2) rfl))) (And.intro ((r3.to hW).cell (j := 1) rfl) (And.intro ((r3.to hW).cell (j := 2) rfl) ((hW.cell (p := ⟨bt, offt + tn * 2 + 1, none⟩) hbt6).trans y2)))))
  clear p3 r2 r3 y2
  refine sch_start [(0, true), (1, true), (2, false), (3, true), (4, true), (5, true), (6, true), (8, true), (9, true), (10, true), (7, false), (11, true), (12, true), (13, true), (14, true), (15, true), (16, true), (17, true), (18, true), (19, true), (20, true), (21, true), (22, true), (23, true), (24, true), (25, true), (26, true), (27, true), (28, true), (29, true), (30, true), (31, true), (32, true)]
    (fun W => Below w6.heap.size w6 W) (by kernel_rfl) rfl (by kernel_rfl) (fun _ _ _ _ _ h => h) (Below.refl _ w6).drew (fun hH => ?_)
  repeat (first | (refine sch_yes (v := ?_) rfl rfl ?_ hH ?_; rotate_left; (focus ((intro W hW; obtain ⟨⟨x0, x1, x2⟩, ⟨y0, y1, y2⟩, z1, z2, z3⟩ := HS.out W hW; go_simp) <;> with_reducible rfl)); simp only [Act.put, List.setIfInBounds_toArray, List.set_cons_zero, List.set_cons_succ]) | (refine sch_no rfl rfl hH ?_; simp only [Act.put, List.setIfInBounds_toArray, List.set_cons_zero, List.set_cons_succ]))
  refine sch_call rfl rfl (fun K' hK' => ?_)
  go_wp2_with (go_at_call 27; refine (TGn.out _ (H6.out.trans (hH.mono H6.out.size))).mono ?_; rintro e w7 ⟨rfl, hB7⟩)
  have hD7 := hH.trans (hB7.mono hH.size)
  refine hK'.out _ _ hD7 ?_
  clear hK' hB7 hH
  have hH := hD7
  repeat (first | (refine sch_yes (v := ?_) rfl rfl ?_ hH ?_; rotate_left; (focus ((intro W hW; obtain ⟨⟨x0, x1, x2⟩, ⟨y0, y1, y2⟩, z1, z2, z3⟩ := HS.out W hW; go_simp) <;> with_reducible rfl)); simp only [Act.put, List.setIfInBounds_toArray, List.set_cons_zero, List.set_cons_succ]) | (refine sch_no rfl rfl hH ?_; simp only [Act.put, List.setIfInBounds_toArray, List.set_cons_zero, List.set_cons_succ]))
  refine sch_call rfl rfl (fun K' hK' => ?_)
  go_wp2_with (go_at_call 27; refine (TH.out _ (HB6.out.trans (hH.mono HB6.out.size))).mono ?_; rintro e w8 ⟨rfl, hB8⟩)
  have hD8 := hH.trans (hB8.mono hH.size)
  refine hK'.out _ _ hD8 ?_
  clear hK' hB8 hH hD7
  have hH := hD8
  repeat (first | (refine sch_yes (v := ?_) rfl rfl ?_ hH ?_; rotate_left; (focus ((intro W hW; obtain ⟨⟨x0, x1, x2⟩, ⟨y0, y1, y2⟩, z1, z2, z3⟩ := HS.out W hW; go_simp) <;> with_reducible rfl)); simp only [Act.put, List.setIfInBounds_toArray, List.set_cons_zero, List.set_cons_succ]) | (refine sch_no rfl rfl hH ?_; simp only [Act.put, List.setIfInBounds_toArray, List.set_cons_zero, List.set_cons_succ]))
  refine sch_done ?_
  clear hH TGn TH TG
  have HD8 := Lib.hid hD8
  clear hD8
  go_wp2
  go_loopw [11] (fun kv W => ∃ k : Nat, k ≤ fl ∧ kv = .int .i64 (k : Int) ∧ Hid (Below w6.heap.size w6 W)) (fun kv _ => fl - (intOf kv).toNat)
  case atStart => exact ⟨0, by omega, rfl, HD8⟩
  case round =>
    rename World => wr
    obtain ⟨k, hk, rfl, hD⟩ := hrel
    obtain ⟨⟨x0, x1, x2⟩, ⟨y0, y1, y2⟩, z1, z2, z3⟩ := HS.out _ hD.out
    by_cases hkl : k < fl
    · obtain ⟨f, hf⟩ : ∃ f, ty.2[k]? = some f := ⟨_, List.getElem?_eq_getElem (by have := Hfl.out; omega)⟩
      obtain ⟨bf, offf, sx, tx, rfl, hbf, u0, u1, u2, -, -, -, -, -⟩ := fld_at (flds_below hD.out Hfs6.out) hf
      obtain ⟨bv, offv, sv, rfl, hbv, v0, v1, v2, hsv, -, -, -⟩ := val_at (vals_below hD.out (vals_below HB6.out Hvs.out)) (zero_at hf)
      obtain ⟨zc1, zc2⟩ := zero_cells f.2.1
      rw [zc1] at v0
      rw [zc2] at hsv
      have hneq : ∀ W, (binOp .neq 30 (.agg #[.int .i64 0, .string sv, .int .i64 (zeroV f.2.1).2.2]) (.agg #[.int .i64 0, .string ⟨#[]⟩, .int .i64 (zeroV f.2.1).2.2])).run Try.prog W = .ok (.bool false) W := fun W => by
        rw [vl_neq, vl_is, hsv, byt_nil]; simp
      have hgd := sval_guard
      have T1 := Lib.hid (fun W => vlzero_any sx tx f.2.1 W)
      have HS2 := Lib.hid (fun (W : World) (hW : Below wr.heap.size wr W) => And.intro (HS.out W (hD.out.trans (hW.mono hD.out.size))) (And.intro (And.intro ((hW.cell (p := ⟨bf, offf + k * 3, none⟩) hbf).trans u0) (And.intro ((hW.cell (p := ⟨bf, offf + k * 3 + 1, none⟩) hbf).trans u1) ((hW.cell (p := ⟨bf, offf + k * 3 + 2, none⟩) hbf).trans u2)))
        (And.intro ((hW.cell (p := ⟨bv, offv + k * 3, none⟩) hbv).trans v0) (And.intro ((hW.cell (p := ⟨bv, offv + k * 3 + 1, none⟩) hbv).trans v1) ((hW.cell (p := ⟨bv, offv + k * 3 + 2, none⟩) hbv).trans v2)))))
      have hk0 : (0 : Int) ≤ (k : Int) := Int.natCast_nonneg k
      have hkf : (k : Int) < (fl : Int) := by omega
      clear hf hsv zc1 zc2 u0 u1 u2 v0 v1 v2
      generalize (zeroV f.2.1).2.2 = zr at *
      generalize f.2.1 = kk at *
      go_wp2
      refine sch_start [(0, true), (1, true), (2, true), (3, true), (4, true), (5, true), (6, true), (7, true), (8, true), (9, true), (10, true), (11, true), (12, true), (13, true), (14, true), (15, false), (16, true)] (fun W => Below wr.heap.size wr W) (by kernel_rfl) rfl (by kernel_rfl) (fun _ _ _ _ _ h => h) (Below.refl _ wr).drew (fun hH => ?_)
      repeat (first | (refine sch_yes (v := ?_) rfl rfl ?_ hH ?_; rotate_left; (focus ((intro W hW; obtain ⟨⟨⟨x0, x1, x2⟩, ⟨y0, y1, y2⟩, z1, z2, z3⟩, ⟨u0, u1, u2⟩, v0, v1, v2⟩ := HS2.out W hW; go_simp) <;> with_reducible rfl)); simp only [Act.put, List.setIfInBounds_toArray, List.set_cons_zero, List.set_cons_succ]) | (refine sch_no rfl rfl hH ?_; simp only [Act.put, List.setIfInBounds_toArray, List.set_cons_zero, List.set_cons_succ]))
      refine sch_call rfl rfl (fun K' hK' => ?_)
      go_wp2_with (go_at_call 30; refine (T1.out _).mono ?_; rintro e w9 ⟨rfl, hB9⟩)
      have hD9 := hH.trans (hB9.mono hH.size)
      refine hK'.out _ _ hD9 ?_
      clear hK' hB9 hH
      have hH := hD9
      repeat (first | (refine sch_yes (v := ?_) rfl rfl ?_ hH ?_; rotate_left; (focus ((intro W hW; obtain ⟨⟨⟨x0, x1, x2⟩, ⟨y0, y1, y2⟩, z1, z2, z3⟩, ⟨u0, u1, u2⟩, v0, v1, v2⟩ := HS2.out W hW; go_simp) <;> with_reducible rfl)); simp only [Act.put, List.setIfInBounds_toArray, List.set_cons_zero, List.set_cons_succ]) | (refine sch_no rfl rfl hH ?_; simp only [Act.put, List.setIfInBounds_toArray, List.set_cons_zero, List.set_cons_succ]))
      refine sch_done ?_
      have HD9 := Lib.hid (hD.out.trans (hD9.mono hD.out.size))
      clear hH hD9 HS2 T1
      go_wp2
      go_roundw
      case rel => exact ⟨k + 1, by omega, by go_num, HD9⟩
      case measure => simp [intOf]; omega
    · obtain rfl : k = fl := by omega
      have q4 : ((rh : Int) == (rh : Int)) = true := by simp
      go_wp2
      refine sch_start [(0, true), (3, true), (1, false), (2, true), (4, false), (5, true), (6, true), (7, true)] (fun W => Below wr.heap.size wr W) (by kernel_rfl) rfl (by kernel_rfl) (fun _ _ _ _ _ h => h) (Below.refl _ wr).drew (fun hH => ?_)
      have HS2 := Lib.hid (fun (W : World) (hW : Below wr.heap.size wr W) => HS.out W (hD.out.trans (hW.mono hD.out.size)))
      repeat (first | (refine sch_yes (v := ?_) rfl rfl ?_ hH ?_; rotate_left; (focus ((intro W hW; obtain ⟨⟨x0, x1, x2⟩, ⟨y0, y1, y2⟩, z1, z2, z3⟩ := HS2.out W hW; go_simp) <;> with_reducible rfl)); simp only [Act.put, List.setIfInBounds_toArray, List.set_cons_zero, List.set_cons_succ]) | (refine sch_no rfl rfl hH ?_; simp only [Act.put, List.setIfInBounds_toArray, List.set_cons_zero, List.set_cons_succ]))
      refine sch_call rfl rfl (fun K' hK' => ?_)
      go_wp2_with (go_at_call 22; refine (TD.out _ ((HB6.out.trans (hD.out.mono HB6.out.size)).trans (hH.mono (HB6.out.trans (hD.out.mono HB6.out.size)).size))).mono ?_; rintro e w9 ⟨A9, c9, rfl, -, -, hB9⟩)
      have hD9 := hH.trans (hB9.mono hH.size)
      refine hK'.out _ _ hD9 ?_
      clear hK' hB9 hH
      have hH := hD9
      repeat (first | (refine sch_yes (v := ?_) rfl rfl ?_ hH ?_; rotate_left; (focus ((intro W hW; obtain ⟨⟨x0, x1, x2⟩, ⟨y0, y1, y2⟩, z1, z2, z3⟩ := HS2.out W hW; go_simp) <;> with_reducible rfl)); simp only [Act.put, List.setIfInBounds_toArray, List.set_cons_zero, List.set_cons_succ]) | (refine sch_no rfl rfl hH ?_; simp only [Act.put, List.setIfInBounds_toArray, List.set_cons_zero, List.set_cons_succ]))
      refine sch_call rfl rfl (fun K' hK' => ?_)
      go_wp2_with (go_at_call 22; refine (TC.out _ ((H6.out.trans (hD.out.mono H6.out.size)).trans (hH.mono (H6.out.trans (hD.out.mono H6.out.size)).size))).mono ?_; rintro e w10 ⟨A10, c10, rfl, -, -, hB10⟩)
      have hD10 := hH.trans (hB10.mono hH.size)
      refine hK'.out _ _ hD10 ?_
      clear hK' hB10 hH hD9
      have hH := hD10
      repeat (first | (refine sch_yes (v := ?_) rfl rfl ?_ hH ?_; rotate_left; (focus ((intro W hW; obtain ⟨⟨x0, x1, x2⟩, ⟨y0, y1, y2⟩, z1, z2, z3⟩ := HS2.out W hW; go_simp) <;> with_reducible rfl)); simp only [Act.put, List.setIfInBounds_toArray, List.set_cons_zero, List.set_cons_succ]) | (refine sch_no rfl rfl hH ?_; simp only [Act.put, List.setIfInBounds_toArray, List.set_cons_zero, List.set_cons_succ]))
      refine sch_done ?_
      have H10 := Lib.hid ((H6.out.trans (hD.out.mono H6.out.size)).trans (hD10.mono (H6.out.trans (hD.out.mono H6.out.size)).size))
      clear hH hD10 HS2
      go_wp2
      go_ret
      exact ⟨rfl, H10.out⟩
end Go.Proofs.Ytembafogbfcajaa
