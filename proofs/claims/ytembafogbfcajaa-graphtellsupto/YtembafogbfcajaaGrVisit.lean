/- The contract of the closure that comeTo goes through the objects by, which calls itself. Condition: a graph that may be. -/
import Derived.Test.YtembafogbfcajaaGrCome
import Derived.BigQuiet
namespace Go.Proofs.Ytembafogbfcajaa
open Go.RowKit Go.Maps

theorem keepM {w w' : World} {b : Nat} (hg : w.grownBy w' (some b)) : Keeps (fun x => x < w.heap.size ∧ x ≠ b) (fun x => x < w'.heap.size ∧ x ≠ b) w w' := fun x hx => ⟨⟨Nat.lt_of_lt_of_le hx.1 hg.size, hx.2⟩, hg.block x hx.1 (by simpa using hx.2)⟩

set_option maxRecDepth 100000 in
set_option maxHeartbeats 4000000 in
theorem visit_go (A B C : Option Addr) (N c M d K e : Nat) (g : Gr) (Gb Mc Vc Mb : Nat) (hmay : mayG g = true) (o : Ob) (ho : o ∈ g.2.1) (L : List Int) (w : World) (hn : o.1 ∉ L) (hL : L.length + cntG g.2.1 L ≤ g.2.1.length) (hC : CW A B C N c M d K e g Gb Mc Vc Mb w) (hS : SetM w Mb L)
    (hrec : ∀ (id : Int) (L' : List Int) (W : World), (Lit.int .i64 id).wf = true → (id = -1 ∨ findG g.2.1 id ≠ -1) → cntG g.2.1 L' < cntG g.2.1 L → L'.length + cntG g.2.1 L' ≤ g.2.1.length → CW A B C N c M d K e g Gb Mc Vc Mb W → SetM W Mb L' →
      Calls Try.prog 73 #[.int .i64 id, .pointer (some ⟨Mc, 0, none⟩), .pointer (some ⟨Gb, 0, none⟩), .pointer (some ⟨Vc, 0, none⟩)] W (Visits g Mb id L' W)) :
    Calls Try.prog 73 #[.int .i64 o.1, .pointer (some ⟨Mc, 0, none⟩), .pointer (some ⟨Gb, 0, none⟩), .pointer (some ⟨Vc, 0, none⟩)] w (Visits g Mb o.1 L w) := by
  have hmo := mayG_obj hmay ho
  have hid : (Lit.int .i64 o.1).wf = true := WalkArith.wf_i64 ⟨by have := hmo.id0; omega, by have := hmo.id1; omega⟩
  obtain ⟨D, hown, hhas⟩ := hS
  have hkey : keyOf Try.prog 3 (.int .i64 o.1) = some (.int .i64 o.1) := keyOf_int_mk Try.underlying3 hid
  have hh := hhas o.1 hid
  rw [decide_eq_false hn] at hh
  have m1 := hC.mc
  have m1' := fun u => (hC.below ((Below.refl _ w).alloc (Nat.le_refl _) u)).mc
  have hmlt := hown.lt
  have hm8 := (mayG_parts hmay).2.1
  have hlm : L.length < maxLen := by simp only [maxLen]; omega
  have h1 : (o.1 == -1) = false := by have := hmo.id0; simp; omega
  have Hadd := Lib.hid (fun (W : World) (h : W.ownsMap Try.prog 3 unitElem Mb (L.length + 1) (D.put (.int .i64 o.1) (.agg []))) => SetM.add h hown.isMap hhas)
  clear hhas
  have Hmo := Lib.hid hmo
  have Hrec := Lib.hid hrec
  have HC := Lib.hid hC
  have Hcnt := Lib.hid (cntG_lt ho hn)
  have HL := Lib.hid hL
  clear hmo hrec hC hL
  -- where the object stands
  obtain ⟨I, hI, hgi⟩ : ∃ I : Nat, findG g.2.1 o.1 = (I : Int) ∧ g.2.1[I]? = some o := by
    obtain ⟨i, p, e1, e2, e3, -⟩ := findG_at (findG_mem.2 ⟨o, ho, rfl⟩)
    have := mayG_apart hmay (List.mem_of_getElem? e2) ho e3
    subst this
    exact ⟨i, e1, e2⟩
  obtain ⟨hM, hMd, hdm⟩ := slice_len (rGr_open HC.out.rd).2.1
  have hIM : I < M := by have := (List.getElem?_eq_some_iff.1 hgi).1; omega
  go_enter Try.func73, Try.ntmps73
  go_wp2_with (first | (at_lookup; refine wpList_lookup_own_unit _ rfl _ _ 71 rfl 3 74 come_law rfl (come_zero _) Mb L.length D rfl hown _ _ rfl hkey ?_; rw [hh]) | (at_mapUpdate; refine wpList_mapUpdate_own _ rfl _ _ _ 71 rfl 3 74 come_law rfl (unitElem (H := Unit)) Mb L.length D rfl (hown.alloc _) hlm _ _ _ rfl rfl hkey _ [] unitElem_mk ?_; intro w1 hown1 hgrow1) | fail)
  have HG1 := Lib.hid ((World.grownBy_alloc w (.cells #[] 74) (some Mb)).trans hgrow1)
  have HS1 := Lib.hid (Hadd.out _ hown1)
  have HC1 := Lib.hid (HC.out.to HG1.out)
  have hml1 := hown1.lt
  obtain ⟨b, off, A2, c2, rfl, hb, x0, x1, x2, hvs, -, -⟩ := ob_at (rGr_open HC1.out.rd).2.1 hgi
  have g0 := HC1.out.gb.cell (j := 0) rfl
  have g1 := HC1.out.gb.cell (j := 1) rfl
  have g2 := HC1.out.gb.cell (j := 2) rfl
  have hil : (I : Int) < (M : Int) := by omega
  have hi0 : (0 : Int) ≤ (I : Int) := by omega
  have T1 := Lib.hid (fun W (hW : Below w1.heap.size w1 W) => gfind_any A (some ⟨b, off, none⟩) C N c M d K e g o.1 W (HC1.out.below hW).all)
  rw [hI] at T1
  clear hown hown1 hgrow1 m1 m1' hh Hadd hkey hid
  simp only [Act.put]
  go_cut [7] (fun v7 wx => ∃ b7 : Nat, v7 = .pointer (some ⟨b7, 0, none⟩) ∧ Blk wx b7 49 [.int .i64 o.1, .int .i64 o.2.1, .slice A2 o.2.2.length c2] ∧ w1.heap.size ≤ b7 ∧ Below w1.heap.size w1 wx)
  case first =>
    have lg := HC1.out.gb.lt
    have HS := Lib.hid (fun (W : World) (hW : Below w1.heap.size w1 W) => And.intro ((hW.cell (p := ⟨Gb, 0, none⟩) lg).trans g0) (And.intro ((hW.cell (p := ⟨Gb, 1, none⟩) lg).trans g1) (And.intro ((hW.cell (p := ⟨Gb, 2, none⟩) lg).trans g2)
      (And.intro ((hW.cell (p := ⟨b, off + I * 3, none⟩) hb.1).trans x0) (And.intro ((hW.cell (p := ⟨b, off + I * 3 + 1, none⟩) hb.1).trans x1) ((hW.cell (p := ⟨b, off + I * 3 + 2, none⟩) hb.1).trans x2))))))
    clear g0 g1 g2 x0 x1 x2
    refine fr_start (fun W => W.cell? ⟨Gb, 0, none⟩ = some (.slice A N c) ∧ W.cell? ⟨Gb, 1, none⟩ = some (.slice (some ⟨b, off, none⟩) M d) ∧ W.cell? ⟨Gb, 2, none⟩ = some (.slice C K e) ∧ W.cell? ⟨b, off + I * 3, none⟩ = some (.int .i64 o.1) ∧ W.cell? ⟨b, off + I * 3 + 1, none⟩ = some (.int .i64 o.2.1) ∧ W.cell? ⟨b, off + I * 3 + 2, none⟩ = some (.slice A2 o.2.2.length c2)) 9 (by kernel_rfl) rfl (fun _ _ _ _ _ h => h) (HS.out _ (Below.refl _ w1).drew) (fun hH => ?_)
    have hD := (Below.refl w1.heap.size w1).drew
    have hDs : w1.heap.size ≤ w1.drew.heap.size := hD.size
    generalize w1.drew = wd at *
    (refine fr_yes 0 (v := ?_) rfl (by kernel_rfl) rfl ?_ hH ?_; rotate_left; (focus ((rintro W ⟨hW1, hW2, hW3, hW4, hW5, hW6⟩; go_simp) <;> with_reducible rfl)); simp only [Act.put, List.setIfInBounds_toArray, List.set_cons_zero, List.set_cons_succ]); (refine fr_yes 1 (v := ?_) rfl (by kernel_rfl) rfl ?_ hH ?_; rotate_left; (focus ((rintro W ⟨hW1, hW2, hW3, hW4, hW5, hW6⟩; go_simp) <;> with_reducible rfl)); simp only [Act.put, List.setIfInBounds_toArray, List.set_cons_zero, List.set_cons_succ]); (refine fr_yes 2 (v := ?_) rfl (by kernel_rfl) rfl ?_ hH ?_; rotate_left; (focus ((rintro W ⟨hW1, hW2, hW3, hW4, hW5, hW6⟩; go_simp) <;> with_reducible rfl)); simp only [Act.put, List.setIfInBounds_toArray, List.set_cons_zero, List.set_cons_succ]); (refine fr_yes 3 (v := ?_) rfl (by kernel_rfl) rfl ?_ hH ?_; rotate_left; (focus ((rintro W ⟨hW1, hW2, hW3, hW4, hW5, hW6⟩; go_simp) <;> with_reducible rfl)); simp only [Act.put, List.setIfInBounds_toArray, List.set_cons_zero, List.set_cons_succ])
    refine fr_op [4, 7] (by kernel_rfl) (by simp) ?_; intro jj hjj; simp only [List.mem_cons, List.not_mem_nil, or_false] at hjj; rcases hjj with rfl | rfl
    · refine ⟨_, rfl, rfl, fun K hK => ?_⟩
      go_wp2_with (go_at_call 27; refine (T1.out _ hD).mono ?_; rintro e wg ⟨rfl, hCg⟩)
      have hDg := hD.trans (hCg.mono hD.size)
      refine hK.out _ _ (HS.out _ hDg) ?_
      clear hK hH hCg
      have hH := HS.out _ hDg
      (refine fr_yes 5 (v := ?_) rfl (by kernel_rfl) rfl ?_ hH ?_; rotate_left; (focus ((rintro W ⟨hW1, hW2, hW3, hW4, hW5, hW6⟩; go_simp) <;> with_reducible rfl)); simp only [Act.put, List.setIfInBounds_toArray, List.set_cons_zero, List.set_cons_succ]); (refine fr_yes 6 (v := ?_) rfl (by kernel_rfl) rfl ?_ hH ?_; rotate_left; (focus ((rintro W ⟨hW1, hW2, hW3, hW4, hW5, hW6⟩; go_simp) <;> with_reducible rfl)); simp only [Act.put, List.setIfInBounds_toArray, List.set_cons_zero, List.set_cons_succ])
      refine fr_op [7] (by kernel_rfl) (by simp) ?_; intro jj hjj; simp only [List.mem_cons, List.not_mem_nil, or_false] at hjj; subst hjj; refine ⟨_, rfl, rfl, fun K hK => ?_⟩
      go_wp2
      have hDz := hDg.alloc hDg.size (.cells #[.int .i64 0, .int .i64 0, .slice none 0 0] 49)
      refine hK.out _ _ (HS.out _ hDz) ?_
      clear hK hH
      refine fr_op [8] (by kernel_rfl) (by simp) ?_; intro jj hjj; simp only [List.mem_cons, List.not_mem_nil, or_false] at hjj; subst hjj; refine ⟨_, rfl, rfl, fun K hK => ?_⟩
      go_wp2
      have hDe := hDg.alloc hDg.size (.cells #[.int .i64 o.1, .int .i64 o.2.1, .slice A2 o.2.2.length c2] 49)
      refine hK.out _ _ (HS.out _ hDe) ?_
      clear hK
      refine fr_done (by kernel_rfl) ?_
      go_wp2
      go_meet
      case rel => exact ⟨_, rfl, Blk.new _ _ [.int .i64 o.1, .int .i64 o.2.1, .slice A2 o.2.2.length c2], hDg.size, hDe⟩
    · refine ⟨_, rfl, rfl, fun K hK => ?_⟩
      go_wp2
      have hDz := hD.alloc hD.size (.cells #[.int .i64 0, .int .i64 0, .slice none 0 0] 49)
      have vz := Blk.new wd 49 [.int .i64 0, .int .i64 0, .slice none 0 0]
      refine hK.out _ _ (HS.out _ hDz) ?_
      clear hK hH
      have hH := HS.out _ hDz
      generalize wd.alloc (.cells #[.int .i64 0, .int .i64 0, .slice none 0 0] 49) = wz at *
      refine fr_op [4] (by kernel_rfl) (by simp) ?_; intro jj hjj; simp only [List.mem_cons, List.not_mem_nil, or_false] at hjj; subst hjj; refine ⟨_, rfl, rfl, fun K hK => ?_⟩
      go_wp2_with (go_at_call 27; refine (T1.out _ hDz).mono ?_; rintro e wg ⟨rfl, hCg⟩)
      have hDg := hDz.trans (hCg.mono hDz.size)
      have vg := vz.to hCg
      refine hK.out _ _ (HS.out _ hDg) ?_
      clear hK hH hCg hDz vz
      have hH := HS.out _ hDg
      (refine fr_yes 5 (v := ?_) rfl (by kernel_rfl) rfl ?_ hH ?_; rotate_left; (focus ((rintro W ⟨hW1, hW2, hW3, hW4, hW5, hW6⟩; go_simp) <;> with_reducible rfl)); simp only [Act.put, List.setIfInBounds_toArray, List.set_cons_zero, List.set_cons_succ]); (refine fr_yes 6 (v := ?_) rfl (by kernel_rfl) rfl ?_ hH ?_; rotate_left; (focus ((rintro W ⟨hW1, hW2, hW3, hW4, hW5, hW6⟩; go_simp) <;> with_reducible rfl)); simp only [Act.put, List.setIfInBounds_toArray, List.set_cons_zero, List.set_cons_succ])
      have z0 := vg.cell (j := 0) rfl
      have z1 := vg.cell (j := 1) rfl
      have z2 := vg.cell (j := 2) rfl
      have f0 := vg.frozen 0
      have f1 := vg.frozen 1
      have f2 := vg.frozen 2
      refine fr_op [8] (by kernel_rfl) (by simp) ?_; intro jj hjj; simp only [List.mem_cons, List.not_mem_nil, or_false] at hjj; subst hjj; refine ⟨_, rfl, rfl, fun K hK => ?_⟩
      go_wp2
      have hDe := ((hDg.setCell (p := ⟨wd.heap.size, 0, none⟩) hDs (.int .i64 o.1)).setCell (p := ⟨wd.heap.size, 1, none⟩) hDs (.int .i64 o.2.1)).setCell (p := ⟨wd.heap.size, 2, none⟩) hDs (.slice A2 o.2.2.length c2)
      refine hK.out _ _ (HS.out _ hDe) ?_
      clear hK hH
      refine fr_done (by kernel_rfl) ?_
      go_wp2
      go_meet
      case rel => exact ⟨_, rfl, ((vg.set 0 (.int .i64 o.1)).set 1 (.int .i64 o.2.1)).set 2 (.slice A2 o.2.2.length c2), hDs, hDe⟩
  case rest =>
    obtain ⟨b7, rfl, p7, hb7, hBx⟩ := hcut
    clear T1 x0 x1 x2 g0 g1 g2 hI hil hi0
    have HGx := Lib.hid (HG1.out.trans (below_grown hBx (some Mb)))
    have HCx := Lib.hid (HC1.out.below hBx)
    have HSx := Lib.hid (HS1.out.below hBx)
    have hvx := rVals_stays.to (keepM (below_grown hBx (some Mb))) hvs
    have h7 : b7 ≠ Mb := by omega
    clear hBx HG1 HC1 HS1 hvs hb7 hml1 HC
    obtain ⟨t, ht⟩ : ∃ t : Nat, o.2.1 = (t : Int) := ⟨o.2.1.toNat, by have := Hmo.out.t0; omega⟩
    obtain ⟨hN, hNc, hcm⟩ := slice_len (rGr_open HCx.out.rd).1
    have htN : t < N := by have := Hmo.out.t1; omega
    have hgt : g.1[t]? = some g.1[t] := List.getElem?_eq_getElem (by omega)
    obtain ⟨bt, offt, st, AF, cF, rfl, hbt, -, y1, -, -, hfs⟩ := typ_at (rGr_open HCx.out.rd).1 hgt
    have hFe := fldsG_at ht hgt
    rw [← hFe] at y1 hfs
    obtain ⟨hF, hFc, hFm⟩ := slice_len hfs
    have hlen := Hmo.out.len
    have hmay' := Hmo.out.have'
    rw [ht] at p7
    have k1 := HCx.out.gb.cell (j := 0) rfl
    have k2 := p7.cell (j := 1) rfl
    have htl : (t : Int) < (N : Int) := by omega
    have ht0 : (0 : Int) ≤ (t : Int) := by omega
    simp only [maxLen] at hFm
    clear hFe hgt Hmo
    have Hfs := Lib.hid hfs
    have Hvx := Lib.hid hvx
    have P7 := Lib.hid p7
    have Hlen := Lib.hid hlen
    have Hhave := Lib.hid hmay'
    clear hfs hvx p7 hlen hmay' hF
    generalize hfs0 : fldsG g.1 o.2.1 = fs at *
    generalize hfl : fs.length = fl at *
    generalize hvl : o.2.2.length = vl at *
    have hlv := Hlen.out
    go_wp2
    clear k1 k2 y1
    go_loopw [40] (fun iv w' => ∃ (i : Nat) (Li : List Int), i ≤ fl ∧ iv = .int .i64 (i : Int) ∧ Hid (wc.grownBy w' (some Mb)) ∧ Hid (SetM w' Mb Li) ∧ Hid (Li.length + cntG g.2.1 Li ≤ g.2.1.length ∧ DfsI g L Li o i)) (fun iv _ => fl - (intOf iv).toNat)
    case atStart => exact ⟨0, _, by omega, rfl, Lib.hid (World.grownBy.refl _ _), HSx, Lib.hid ⟨by have := HL.out; have := Hcnt.out; rw [List.length_append, List.length_singleton]; omega, DfsI.start g L o⟩⟩
    case round =>
      rename_i iv wr
      obtain ⟨i, Li, hi, rfl, hg, hS, hr⟩ := hrel
      by_cases hin : i < fl
      · obtain ⟨f, hfi⟩ : ∃ f, fs[i]? = some f := ⟨_, List.getElem?_eq_getElem (by omega)⟩
        obtain ⟨bf, offf, sx, tx, rfl, hbf, q0, q1, q2, -, -, -, -, -⟩ := fld_at (rFlds_stays.to (keepM hg.out) Hfs.out) hfi
        have hil : (i : Int) < (fl : Int) := by omega
        have hi0 : (0 : Int) ≤ (i : Int) := by omega
        have HA := Lib.hid (World.grownBy_alloc wr (.cells #[.string sx, .int .i64 f.2.1, .string tx] 51) (some Mb))
        by_cases h5 : f.2.1 = 5
        · have h5' : (f.2.1 == 5) = true := by simp [h5]
          obtain ⟨v, hvi⟩ : ∃ v, o.2.2[i]? = some v := ⟨_, List.getElem?_eq_getElem (by omega)⟩
          obtain ⟨bv, offv, sv, rfl, hbv, -, -, r2, -, -, -, hvb⟩ := val_at (rVals_stays.to (keepM hg.out) Hvx.out) hvi
          have HGr := Lib.hid (hg.out.trans HA.out)
          have HCr := Lib.hid (HCx.out.to HGr.out)
          have HSr := Lib.hid (hS.out.kept (World.grownBy_alloc wr (.cells #[.string sx, .int .i64 f.2.1, .string tx] 51) none) (by simp))
          have p7r : Blk (wr.alloc (.cells #[.string sx, .int .i64 f.2.1, .string tx] 51)) b7 49 [.int .i64 o.1, .int .i64 (t : Int), .slice (some ⟨bv, offv, none⟩) vl c2] := (HGr.out.block _ P7.out.lt (by simpa using h7)).trans P7.out
          have r2' : (wr.alloc (.cells #[.string sx, .int .i64 f.2.1, .string tx] 51)).cell? ⟨bv, offv + i * 3 + 2, none⟩ = some (.int .i64 v.2.2) := HA.out.cell r2 (by simpa using hbv.2)
          have T9 := Lib.hid (fun W hC9 hS9 => Hrec.out v.2.2 Li W (WalkArith.wf_i64 hvb) (by
            by_cases e1 : v.2.2 = -1
            · exact .inl e1
            · exact .inr (haveG_ref (Hhave.out i f v hfi hvi) h5 e1).1) (by have := cntG_le (os := g.2.1) hr.out.2.more; have := Hcnt.out; omega) hr.out.1 hC9 hS9)
          have Hst := Lib.hid (fun Lj hd => hr.out.2.step (Mj := Lj) ho (by rw [hfs0]; exact hfi) hvi h5 hd)
          have S0 := And.intro HCr.out.vc (And.intro (p7r.cell (j := 2) rfl) r2')
          have hilv : (i : Int) < (vl : Int) := by omega
          clear r2 r2' hfi hvi h5 hvb
          generalize hkk : f.2.1 = kk at *
          generalize hrr : v.2.2 = rr at *
          clear hkk
          go_wp2
          generalize wr.alloc (.cells #[.string sx, .int .i64 kk, .string tx] 51) = W1 at *
          refine sch_start [(0, true), (1, true), (2, true), (3, true), (4, true), (5, true), (6, true), (7, false)]
            (fun W => W.cell? ⟨Vc, 0, none⟩ = some (.func (.func 73) #[] #[.pointer (some ⟨Mc, 0, none⟩), .pointer (some ⟨Gb, 0, none⟩), .pointer (some ⟨Vc, 0, none⟩)]) ∧ W.cell? ⟨b7, 2, none⟩ = some (.slice (some ⟨bv, offv, none⟩) vl c2) ∧ W.cell? ⟨bv, offv + i * 3 + 2, none⟩ = some (.int .i64 rr)) (by kernel_rfl) rfl (by kernel_rfl) (fun _ _ _ _ _ h => h) S0 (fun hH => ?_)
          repeat (first | (refine sch_yes (v := ?_) rfl rfl ?_ hH ?_; rotate_left; (focus ((rintro W ⟨hW1, hW2, hW3⟩; go_simp) <;> with_reducible rfl)); simp only [Act.put, List.setIfInBounds_toArray, List.set_cons_zero, List.set_cons_succ]) | (refine sch_no rfl rfl hH ?_; simp only [Act.put, List.setIfInBounds_toArray, List.set_cons_zero, List.set_cons_succ]))
          refine sch_call rfl rfl (fun K' hK => ?_)
          go_wp2_with (go_at_call 73; refine (T9.out _ (HCr.out.below (Below.refl _ W1).drew) (HSr.out.below (Below.refl _ W1).drew)).mono ?_; rintro e w9 ⟨rfl, Lj, hS9, hL9, hd9, hg9⟩)
          have hG9 : W1.grownBy w9 (some Mb) := (below_grown (Below.refl _ W1).drew (some Mb)).trans hg9
          have S9 := And.intro (HCr.out.to hG9).vc (And.intro (hG9.cell S0.2.1 (by simpa using h7)) (hG9.cell S0.2.2 (by simpa using hbv.2)))
          refine hK.out _ _ S9 ?_
          clear hK hH
          refine sch_done ?_
          go_wp2
          go_roundw
          case rel => exact ⟨i + 1, Lj, by omega, by go_num, Lib.hid (HGr.out.trans hG9), Lib.hid hS9, Lib.hid ⟨hL9, Hst.out Lj hd9⟩⟩
          case measure => simp [intOf]; omega
        · have h5' : (f.2.1 == 5) = false := by simp [h5]
          have Hp := Lib.hid (hr.out.2.pass (by rw [hfs0]; exact hfi) h5)
          clear hfi h5
          generalize f.2.1 = kk at *
          go_wp2
          go_roundw
          case rel => exact ⟨i + 1, Li, by omega, by go_num, Lib.hid (hg.out.trans HA.out), Lib.hid (hS.out.kept (World.grownBy_alloc _ _ none) (by simp)), Lib.hid ⟨hr.out.1, Hp.out⟩⟩
          case measure => simp [intOf]; omega
      · obtain rfl : i = fl := by omega
        have Hall := Lib.hid (hr.out.2.all ho (by omega) (by simpa using h1) (fun p hp e => mayG_apart hmay hp ho e))
        go_wp2
        go_end0
        exact ⟨rfl, Li, hS.out, hr.out.1, Hall.out, HGx.out.trans hg.out⟩

/-- The closure, whatever it is called for. -/
theorem visit_any (A B C : Option Addr) (N c M d K e : Nat) (g : Gr) (Gb Mc Vc Mb : Nat) (hmay : mayG g = true) : ∀ (n : Nat) (id : Int) (L : List Int) (w : World), cntG g.2.1 L ≤ n → (Lit.int .i64 id).wf = true → (id = -1 ∨ findG g.2.1 id ≠ -1) → L.length + cntG g.2.1 L ≤ g.2.1.length → CW A B C N c M d K e g Gb Mc Vc Mb w → SetM w Mb L →
    Calls Try.prog 73 #[.int .i64 id, .pointer (some ⟨Mc, 0, none⟩), .pointer (some ⟨Gb, 0, none⟩), .pointer (some ⟨Vc, 0, none⟩)] w (Visits g Mb id L w) := by
  intro n
  induction n with
  | zero =>
    intro id L w hn hw hi hL hC hS
    refine visit_skip A B C N c M d K e g Gb Mc Vc Mb id L w hw hL hC hS ?_
    by_cases h1 : id = -1
    · exact .inl h1
    · obtain ⟨o, ho, rfl⟩ := findG_mem.1 (hi.resolve_left h1)
      by_cases h2 : o.1 ∈ L
      · exact .inr h2
      · have := cntG_lt ho h2; omega
  | succ n ih =>
    intro id L w hn hw hi hL hC hS
    by_cases h1 : id = -1
    · exact visit_skip A B C N c M d K e g Gb Mc Vc Mb id L w hw hL hC hS (.inl h1)
    · obtain ⟨o, ho, rfl⟩ := findG_mem.1 (hi.resolve_left h1)
      by_cases h2 : o.1 ∈ L
      · exact visit_skip A B C N c M d K e g Gb Mc Vc Mb o.1 L w hw hL hC hS (.inr h2)
      · exact visit_go A B C N c M d K e g Gb Mc Vc Mb hmay o ho L w h2 hL hC hS (fun id' L' W a1 a2 a3 a4 a5 a6 => ih id' L' W (by omega) a1 a2 a4 a5 a6)
end Go.Proofs.Ytembafogbfcajaa
