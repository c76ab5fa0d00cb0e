/- The texts CaLeads, CaConcat, CaMap, CaMeet in one; what each proves, and its conditions, stands before it. -/
import Derived.Test.YteafbdebmhpffaaGrSweepAll
import Derived.Test.YteafbdebmhpffaaCaQAll
import Derived.Lib.AppendZeros
import Derived.Test.YteafbdebmhpffaaCut
import Derived.Maps.OwnSet
import Derived.Maps.OwnOps
import Derived.Deep.LoopGhost
/- The contract of canon's leads: the Refs of an object, in order of its fields. Condition: a graph that may be, and an object of it. -/
namespace Go.Proofs.Yteafbdebmhpffaa
open Go.RowKit Go.Maps

/-- The Refs of the first fields. -/
def refsT (fs : List Fld) (vs : List Vl) (i : Nat) : List Int := ((fs.zip vs).take i).filterMap fun p => if p.1.2.1 = 5 then some p.2.2.2 else none
theorem refsT_yes {fs : List Fld} {vs : List Vl} {i : Nat} {f : Fld} {v : Vl} (h1 : fs[i]? = some f) (h2 : vs[i]? = some v) (h5 : f.2.1 = 5) : refsT fs vs (i + 1) = refsT fs vs i ++ [v.2.2] := by
  have : (fs.zip vs)[i]? = some (f, v) := by rw [List.getElem?_zip_eq_some]; exact ⟨h1, h2⟩
  rw [refsT, take_at this, List.filterMap_append, ← refsT]
  simp [h5]
theorem refsT_no {fs : List Fld} {vs : List Vl} {i : Nat} {f : Fld} (h1 : fs[i]? = some f) (hl : fs.length = vs.length) (h5 : f.2.1 ≠ 5) : refsT fs vs (i + 1) = refsT fs vs i := by
  have hi := (List.getElem?_eq_some_iff.1 h1).1
  have h2 : vs[i]? = some (vs[i]'(by omega)) := List.getElem?_eq_getElem (by omega)
  have : (fs.zip vs)[i]? = some (f, vs[i]'(by omega)) := by rw [List.getElem?_zip_eq_some]; exact ⟨h1, h2⟩
  rw [refsT, take_at this, List.filterMap_append, ← refsT]
  simp [h5]
theorem refsT_all {s : Sch} {o : Ob} : refsT (fldsG s o.2.1) o.2.2 (fldsG s o.2.1).length = refsL s o := by
  rw [refsT, List.take_of_length_le (by rw [List.length_zip]; omega), refsL]
theorem refsT_len (fs : List Fld) (vs : List Vl) (i : Nat) : (refsT fs vs i).length ≤ i := by
  have := List.length_filterMap_le (fun p : Fld × Vl => if p.1.2.1 = 5 then some p.2.2.2 else none) ((fs.zip vs).take i)
  rw [refsT]
  rw [List.length_take] at this
  omega
theorem fields_few {g : Gr} (hm : mayG g = true) (t : Int) : (fldsG g.1 t).length ≤ 5 := by
  rw [fldsG, List.getD_eq_getElem?_getD]
  cases h : g.1[t.toNat]? with
  | none => simp
  | some x => exact ((mayT_iff _ _ _).1 (((mayS_iff _).1 (mayG_parts hm).1).2 _ x h)).2.2.1
/-- Where an object stands. -/
theorem obj_place {g : Gr} (hmay : mayG g = true) {o : Ob} (ho : o ∈ g.2.1) : ∃ I : Nat, findG g.2.1 o.1 = (I : Int) ∧ g.2.1[I]? = some o := by
  obtain ⟨i, p, e1, e2, e3, -⟩ := findG_at (findG_mem.2 ⟨o, ho, rfl⟩)
  have := mayG_apart hmay (List.mem_of_getElem? e2) ho e3
  subst this
  exact ⟨i, e1, e2⟩

set_option maxRecDepth 100000 in
set_option maxHeartbeats 4000000 in
theorem leads_any (A B C : Option Addr) (N c M d K e : Nat) (g : Gr) (o : Ob) (w : World) (hmay : mayG g = true) (ho : o ∈ g.2.1) (h : rGr (All w) w [.slice A N c, .slice B M d, .slice C K e] g) :
    Calls Try.prog 55 #[.agg #[.slice A N c, .slice B M d, .slice C K e], .int .i64 o.1] w fun e w' => ∃ A1 c1, e = .returned (.slice A1 (refsL g.1 o).length c1) ∧ rIds (fun b => w.heap.size ≤ b ∧ b < w'.heap.size) w' [.slice A1 (refsL g.1 o).length c1] (refsL g.1 o) ∧ Below w.heap.size w w' := by
  obtain ⟨i0, hi, hz0, hz1, hz2⟩ := info_parts info_int
  have Hmo := Lib.hid (mayG_obj hmay ho)
  obtain ⟨I, hI, hgi⟩ := obj_place hmay ho
  obtain ⟨hM, hMd, hdm⟩ := slice_len (rGr_open h).2.1
  have hIM : I < M := by have := (List.getElem?_eq_some_iff.1 hgi).1; omega
  have hB0 : Below w.heap.size w (w.alloc (.cells #[.slice A N c, .slice B M d, .slice C K e] 28)) := (Below.refl _ w).alloc (Nat.le_refl _) _
  have p0 := Blk.new w 28 [.slice A N c, .slice B M d, .slice C K e]
  have h1 := gr_below hB0 h
  have HB0 := Lib.hid hB0
  have hs1 : w.heap.size < (w.alloc (.cells #[.slice A N c, .slice B M d, .slice C K e] 28)).heap.size := by simp
  clear h hB0
  go_enter Try.func55, Try.ntmps55
  go_wp2
  generalize w.alloc (.cells #[.slice A N c, .slice B M d, .slice C K e] 28) = w1 at *
  obtain ⟨b, off, A2, c2, rfl, hb, x0, x1, x2, hvs, -, -⟩ := ob_at (rGr_open h1).2.1 hgi
  have g0 := p0.cell (j := 0) rfl
  have g1 := p0.cell (j := 1) rfl
  have g2 := p0.cell (j := 2) rfl
  have hil : (I : Int) < (M : Int) := by omega
  have hi0 : (0 : Int) ≤ (I : Int) := by omega
  have T1 := Lib.hid (fun W (hW : Below w1.heap.size w1 W) => gfind_any A (some ⟨b, off, none⟩) C N c M d K e g o.1 W (gr_below hW h1))
  rw [hI] at T1
  have H1 := Lib.hid h1
  have Hvs := Lib.hid hvs
  have P0 := Lib.hid p0
  clear h1 hvs p0
  go_cut [6] (fun v7 wx => ∃ b7 : Nat, v7 = .pointer (some ⟨b7, 0, none⟩) ∧ Blk wx b7 38 [.int .i64 o.1, .int .i64 o.2.1, .slice A2 o.2.2.length c2] ∧ w1.heap.size ≤ b7 ∧ Below w1.heap.size w1 wx)
  case first =>
    have HS := Lib.hid (fun (W : World) (hW : Below w1.heap.size w1 W) => And.intro ((hW.cell (p := ⟨w.heap.size, 0, none⟩) hs1).trans g0) (And.intro ((hW.cell (p := ⟨w.heap.size, 1, none⟩) hs1).trans g1) (And.intro ((hW.cell (p := ⟨w.heap.size, 2, none⟩) hs1).trans g2)
      (And.intro ((hW.cell (p := ⟨b, off + I * 3, none⟩) hb).trans x0) (And.intro ((hW.cell (p := ⟨b, off + I * 3 + 1, none⟩) hb).trans x1) ((hW.cell (p := ⟨b, off + I * 3 + 2, none⟩) hb).trans x2))))))
    clear g0 g1 g2 x0 x1 x2
    refine fr_start (fun W => W.cell? ⟨w.heap.size, 0, none⟩ = some (.slice A N c) ∧ W.cell? ⟨w.heap.size, 1, none⟩ = some (.slice (some ⟨b, off, none⟩) M d) ∧ W.cell? ⟨w.heap.size, 2, none⟩ = some (.slice C K e) ∧ W.cell? ⟨b, off + I * 3, none⟩ = some (.int .i64 o.1) ∧ W.cell? ⟨b, off + I * 3 + 1, none⟩ = some (.int .i64 o.2.1) ∧ W.cell? ⟨b, off + I * 3 + 2, none⟩ = some (.slice A2 o.2.2.length c2)) 9 (by kernel_rfl) rfl (fun _ _ _ _ _ h => h) (HS.out _ (Below.refl _ w1).drew) (fun hH => ?_)
    have hD := (Below.refl w1.heap.size w1).drew
    have hDs : w1.heap.size ≤ w1.drew.heap.size := hD.size
    generalize w1.drew = wd at *
    (refine fr_yes 0 (v := ?_) rfl (by kernel_rfl) rfl ?_ hH ?_; rotate_left; (focus ((rintro W ⟨hW1, hW2, hW3, hW4, hW5, hW6⟩; go_simp) <;> with_reducible rfl)); simp only [Act.put, List.setIfInBounds_toArray, List.set_cons_zero, List.set_cons_succ]); (refine fr_yes 1 (v := ?_) rfl (by kernel_rfl) rfl ?_ hH ?_; rotate_left; (focus ((rintro W ⟨hW1, hW2, hW3, hW4, hW5, hW6⟩; go_simp) <;> with_reducible rfl)); simp only [Act.put, List.setIfInBounds_toArray, List.set_cons_zero, List.set_cons_succ]); (refine fr_yes 2 (v := ?_) rfl (by kernel_rfl) rfl ?_ hH ?_; rotate_left; (focus ((rintro W ⟨hW1, hW2, hW3, hW4, hW5, hW6⟩; go_simp) <;> with_reducible rfl)); simp only [Act.put, List.setIfInBounds_toArray, List.set_cons_zero, List.set_cons_succ]); (refine fr_yes 3 (v := ?_) rfl (by kernel_rfl) rfl ?_ hH ?_; rotate_left; (focus ((rintro W ⟨hW1, hW2, hW3, hW4, hW5, hW6⟩; go_simp) <;> with_reducible rfl)); simp only [Act.put, List.setIfInBounds_toArray, List.set_cons_zero, List.set_cons_succ])
    refine fr_op [4, 7] (by kernel_rfl) (by simp) ?_; intro jj hjj; simp only [List.mem_cons, List.not_mem_nil, or_false] at hjj; rcases hjj with rfl | rfl
    · refine ⟨_, rfl, rfl, fun K hK => ?_⟩
      go_wp2_with (go_at_call 29; refine (T1.out _ hD).mono ?_; rintro e wg ⟨rfl, hCg⟩)
      have hDg := hD.trans (hCg.mono hD.size)
      refine hK.out _ _ (HS.out _ hDg) ?_
      clear hK hH hCg
      have hH := HS.out _ hDg
      (refine fr_yes 5 (v := ?_) rfl (by kernel_rfl) rfl ?_ hH ?_; rotate_left; (focus ((rintro W ⟨hW1, hW2, hW3, hW4, hW5, hW6⟩; go_simp) <;> with_reducible rfl)); simp only [Act.put, List.setIfInBounds_toArray, List.set_cons_zero, List.set_cons_succ]); (refine fr_yes 6 (v := ?_) rfl (by kernel_rfl) rfl ?_ hH ?_; rotate_left; (focus ((rintro W ⟨hW1, hW2, hW3, hW4, hW5, hW6⟩; go_simp) <;> with_reducible rfl)); simp only [Act.put, List.setIfInBounds_toArray, List.set_cons_zero, List.set_cons_succ])
      refine fr_op [7] (by kernel_rfl) (by simp) ?_; intro jj hjj; simp only [List.mem_cons, List.not_mem_nil, or_false] at hjj; subst hjj; refine ⟨_, rfl, rfl, fun K hK => ?_⟩
      go_wp2
      have hDz := hDg.alloc hDg.size (.cells #[.int .i64 0, .int .i64 0, .slice none 0 0] 38)
      refine hK.out _ _ (HS.out _ hDz) ?_
      clear hK hH
      refine fr_op [8] (by kernel_rfl) (by simp) ?_; intro jj hjj; simp only [List.mem_cons, List.not_mem_nil, or_false] at hjj; subst hjj; refine ⟨_, rfl, rfl, fun K hK => ?_⟩
      go_wp2
      have hDe := hDg.alloc hDg.size (.cells #[.int .i64 o.1, .int .i64 o.2.1, .slice A2 o.2.2.length c2] 38)
      refine hK.out _ _ (HS.out _ hDe) ?_
      clear hK
      refine fr_done (by kernel_rfl) ?_
      go_wp2
      go_meet
      case rel => exact ⟨_, rfl, Blk.new _ _ [.int .i64 o.1, .int .i64 o.2.1, .slice A2 o.2.2.length c2], hDg.size, hDe⟩
    · refine ⟨_, rfl, rfl, fun K hK => ?_⟩
      go_wp2
      have hDz := hD.alloc hD.size (.cells #[.int .i64 0, .int .i64 0, .slice none 0 0] 38)
      have vz := Blk.new wd 38 [.int .i64 0, .int .i64 0, .slice none 0 0]
      refine hK.out _ _ (HS.out _ hDz) ?_
      clear hK hH
      have hH := HS.out _ hDz
      generalize wd.alloc (.cells #[.int .i64 0, .int .i64 0, .slice none 0 0] 38) = wz at *
      refine fr_op [4] (by kernel_rfl) (by simp) ?_; intro jj hjj; simp only [List.mem_cons, List.not_mem_nil, or_false] at hjj; subst hjj; refine ⟨_, rfl, rfl, fun K hK => ?_⟩
      go_wp2_with (go_at_call 29; refine (T1.out _ hDz).mono ?_; rintro e wg ⟨rfl, hCg⟩)
      have hDg := hDz.trans (hCg.mono hDz.size)
      have vg := vz.to hCg
      refine hK.out _ _ (HS.out _ hDg) ?_
      clear hK hH hCg hDz vz
      have hH := HS.out _ hDg
      (refine fr_yes 5 (v := ?_) rfl (by kernel_rfl) rfl ?_ hH ?_; rotate_left; (focus ((rintro W ⟨hW1, hW2, hW3, hW4, hW5, hW6⟩; go_simp) <;> with_reducible rfl)); simp only [Act.put, List.setIfInBounds_toArray, List.set_cons_zero, List.set_cons_succ]); (refine fr_yes 6 (v := ?_) rfl (by kernel_rfl) rfl ?_ hH ?_; rotate_left; (focus ((rintro W ⟨hW1, hW2, hW3, hW4, hW5, hW6⟩; go_simp) <;> with_reducible rfl)); simp only [Act.put, List.setIfInBounds_toArray, List.set_cons_zero, List.set_cons_succ])
      have z0 := vg.cell (j := 0) rfl
      have z1 := vg.cell (j := 1) rfl
      have z2 := vg.cell (j := 2) rfl
      have f0 := vg.frozen 0
      have f1 := vg.frozen 1
      have f2 := vg.frozen 2
      refine fr_op [8] (by kernel_rfl) (by simp) ?_; intro jj hjj; simp only [List.mem_cons, List.not_mem_nil, or_false] at hjj; subst hjj; refine ⟨_, rfl, rfl, fun K hK => ?_⟩
      go_wp2
      have hDe := ((hDg.setCell (p := ⟨wd.heap.size, 0, none⟩) hDs (.int .i64 o.1)).setCell (p := ⟨wd.heap.size, 1, none⟩) hDs (.int .i64 o.2.1)).setCell (p := ⟨wd.heap.size, 2, none⟩) hDs (.slice A2 o.2.2.length c2)
      refine hK.out _ _ (HS.out _ hDe) ?_
      clear hK hH
      refine fr_done (by kernel_rfl) ?_
      go_wp2
      go_meet
      case rel => exact ⟨_, rfl, ((vg.set 0 (.int .i64 o.1)).set 1 (.int .i64 o.2.1)).set 2 (.slice A2 o.2.2.length c2), hDs, hDe⟩
  case rest =>
    obtain ⟨b7, rfl, p7, hb7, hBx⟩ := hcut
    clear T1 x0 x1 x2 g0 g1 g2 hI hil hi0
    have HBx := Lib.hid (HB0.out.trans (hBx.mono HB0.out.size))
    have hHx := gr_below hBx H1.out
    have hvx := vals_below hBx Hvs.out
    have p0x := P0.out.below hs1 hBx
    clear hBx H1 Hvs P0 hb7 HB0
    obtain ⟨t, ht⟩ : ∃ t : Nat, o.2.1 = (t : Int) := ⟨o.2.1.toNat, by have := Hmo.out.t0; omega⟩
    obtain ⟨hN, hNc, hcm⟩ := slice_len (rGr_open hHx).1
    have htN : t < N := by have := Hmo.out.t1; omega
    have hgt : g.1[t]? = some g.1[t] := List.getElem?_eq_getElem (by omega)
    obtain ⟨bt, offt, st, AF, cF, rfl, hbt, -, y1, -, -, hfs⟩ := typ_at (rGr_open hHx).1 hgt
    have hFe := fldsG_at ht hgt
    rw [← hFe] at y1 hfs
    obtain ⟨hF, hFc, hFm⟩ := slice_len hfs
    have hlen := Hmo.out.len
    rw [ht] at p7
    have k1 := p0x.cell (j := 0) rfl
    have k2 := p7.cell (j := 1) rfl
    have htl : (t : Int) < (N : Int) := by omega
    have ht0 : (0 : Int) ≤ (t : Int) := by omega
    simp only [maxLen] at hFm
    have h10 := fields_few hmay o.2.1
    clear hFe hgt Hmo
    have Hfs := Lib.hid hfs
    have Hvx := Lib.hid hvx
    have P7 := Lib.hid p7
    have Hlen := Lib.hid hlen
    have Hall : Hid (refsT (fldsG g.1 o.2.1) o.2.2 (fldsG g.1 o.2.1).length = refsL g.1 o) := Lib.hid refsT_all
    clear hfs hvx p7 hlen hF hHx p0x
    generalize hfs0 : fldsG g.1 o.2.1 = fs at *
    generalize hfl : fs.length = fl at *
    generalize hvl : o.2.2.length = vl at *
    have hlv := Hlen.out
    go_wp2
    clear k1 k2 y1
    go_loopw [5, 25] (fun v iv w' => ∃ i : Nat, i ≤ fl ∧ iv = .int .i64 (i : Int) ∧ Hid (w'.ownsRow wc.heap.size 3 1 v (refsT fs o.2.2 i).length (ints (refsT fs o.2.2 i))) ∧ Hid (∀ n ∈ refsT fs o.2.2 i, (Lit.int .i64 n).wf = true) ∧ Hid (Below wc.heap.size wc w')) (fun _ iv _ => fl - (intOf iv).toNat)
    case atStart => exact ⟨0, by omega, rfl, Lib.hid (World.ownsRow_nil _ _ _ _), Lib.hid (by simp [refsT]), Lib.hid (Below.refl _ _)⟩
    case round =>
      rename_i v iv wr
      obtain ⟨i, hi', rfl, hown, hwf, hg⟩ := hrel
      have hgs := hg.out.size
      by_cases hin : i < fl
      · obtain ⟨f, hfi⟩ : ∃ f, fs[i]? = some f := ⟨_, List.getElem?_eq_getElem (by omega)⟩
        obtain ⟨bf, offf, sx, tx, rfl, hbf, q0, q1, q2, -, -, -, -, -⟩ := fld_at (rFlds_stays.to (Keeps.below hg.out) Hfs.out) hfi
        have hil : (i : Int) < (fl : Int) := by omega
        have hi0 : (0 : Int) ≤ (i : Int) := by omega
        have HA := Lib.hid (hg.out.alloc hgs (.cells #[.string sx, .int .i64 f.2.1, .string tx] 48))
        by_cases h5 : f.2.1 = 5
        · have h5' : (f.2.1 == 5) = true := by simp [h5]
          obtain ⟨v2, hvi⟩ : ∃ v, o.2.2[i]? = some v := ⟨_, List.getElem?_eq_getElem (by omega)⟩
          obtain ⟨bv, offv, sv, rfl, hbv, -, -, r2, -, -, -, hvb⟩ := val_at (vals_below HA.out Hvx.out) hvi
          have c7 := (P7.out.below P7.out.lt HA.out).cell (j := 2) rfl
          have Hst := Lib.hid (refsT_yes hfi hvi h5)
          have hilv : (i : Int) < (vl : Int) := by omega
          have Hrd := Lib.hid (lit_ints (wr.alloc (.cells #[.string sx, .int .i64 f.2.1, .string tx] 48)) [v2.2.2])
          have hT := refsT_len fs o.2.2 i
          have Hvb := Lib.hid (WalkArith.wf_i64 hvb)
          clear hfi hvi h5 hvb
          generalize hrt : refsT fs o.2.2 i = rs at *
          generalize hkk : f.2.1 = kk at *
          generalize hrr : v2.2.2 = rr at *
          clear hkk
          go_wp2_with (first
            | (at_builtin; refine wpList_app rfl (.tmp 33) (.tmp 40) 26 rfl wc.heap.size 3 i0 (.int .i64 0) 8 Try.underlying26 hi hz0 hz1 hz2 rfl _ rs.length (ints rs) rfl ((hown.out.alloc _).alloc _) (some ⟨wr.heap.size + 1, 0, none⟩) 1 1 (ints [rr]) rfl rfl (by have := Hrd.out; rwa [World.size_alloc] at this) (ints_one _) (by simp only [maxLen]; omega) (by omega) (by simp; omega) ?_; intro v4 w4 hown4 hg4 _)
            | fail)
          go_roundw
          case rel =>
            refine ⟨i + 1, by omega, by go_num, Lib.hid (by rw [Hst.out, List.length_append, ints_append]; exact hown4), Lib.hid ?_, Lib.hid ?_⟩
            · intro n hn
              rw [Hst.out] at hn
              rcases List.mem_append.1 hn with e | e
              · exact hwf.out n e
              · simp at e; subst e; exact Hvb.out
            · exact (HA.out.alloc (by simp; omega) _).grown hg4 (by simp; omega) (fun k hk => (hown.out.lt k hk).1)
          case measure => simp [intOf]; omega
        · have h5' : (f.2.1 == 5) = false := by simp [h5]
          have Hp := Lib.hid (refsT_no (vs := o.2.2) hfi (by omega) h5)
          clear hfi h5
          generalize f.2.1 = kk at *
          go_wp2
          go_roundw
          case rel => exact ⟨i + 1, by omega, by go_num, Lib.hid (by rw [Hp.out]; exact hown.out.alloc _), Lib.hid (by rw [Hp.out]; exact hwf.out), HA⟩
          case measure => simp [intOf]; omega
      · obtain rfl : i = fl := by omega
        rw [Hall.out] at hown hwf
        obtain ⟨A9, c9, rfl, _⟩ := own_slice hown.out
        go_wp2
        go_ret
        exact ⟨A9, c9, rfl, rIds_stays.to (Keeps.mono fun b hb => ⟨Nat.le_trans HBx.out.size hb.1, hb.2⟩) (ids_own hown.out rfl hwf.out), HBx.out.trans (hg.out.mono HBx.out.size)⟩
end Go.Proofs.Yteafbdebmhpffaa

/- The contracts of slices.Grow of nothing, and of slices.Concat of two slices of ints: what stands behind each other, in memory of the call's own. Condition: together they have at most 2^43. -/
namespace Go.Proofs.Yteafbdebmhpffaa
open Go.RowKit

set_option maxRecDepth 100000 in
set_option maxHeartbeats 1000000 in
theorem igrow_zero (w : World) :
    Calls Try.prog 78 #[.slice none 0 0, .int .i64 0] w fun e w' => ∃ v, e = .returned v ∧ w'.ownsRow w.heap.size 3 1 v 0 [] ∧ Below w.heap.size w w' := by
  go_enter Try.func78, Try.ntmps78
  go_wp2
  go_ret
  exact ⟨_, rfl, World.ownsRow_nil _ _ _ _, Below.refl _ w⟩
set_option maxRecDepth 100000 in
set_option maxHeartbeats 1000000 in
theorem igrow_more (n : Nat) (w : World) (h0 : 0 < n) (hlen : n ≤ 8796093022208) :
    Calls Try.prog 78 #[.slice none 0 0, .int .i64 (n : Int)] w fun e w' => ∃ v, e = .returned v ∧ w'.ownsRow w.heap.size 3 1 v 0 [] ∧ Below w.heap.size w w' := by
  obtain ⟨i0, hi, hz0, hz1, hz2⟩ := info_parts info_int
  have happ := Lib.run_append_nil_zeros (P := Try.prog) w 26 3 26 3 i0 (.int .i64 0) .i64 .i64 Try.underlying26 Try.underlying3 hi hz0 n h0 (by omega) (by omega) (by rw [hz2]; omega)
  have hown : ∀ cells, cells.size = grownCap w n 0 3 → (w.drew.alloc (.cells cells 3)).ownsRow w.heap.size 3 1 (.slice (some ⟨w.heap.size, 0, none⟩) 0 (grownCap w n 0 3)) 0 [] := fun cells hc =>
    World.ownsRow_made w.drew cells (grownCap w n 0 3) (Nat.le_refl _) (grownCap_le_maxLen w n 0 3 (by simp only [maxLen]; omega)) (by omega)
  have hown' := hown (Builtin.zeroCells (Value.int .i64 0).cells n ++ Builtin.zeroCells (Value.int .i64 0).cells (grownCap w n 0 3 - n)) (by have := grownCap_ge w n 0 3; simp [size_zeroCells, Value.cells]; omega)
  generalize hcap : grownCap w n 0 3 = cap at *
  have hcapge : n ≤ cap := by rw [← hcap]; exact grownCap_ge w _ 0 3
  generalize hZ : (Builtin.zeroCells (Value.int .i64 0).cells n ++ Builtin.zeroCells (Value.int .i64 0).cells (cap - n)) = Z at *
  clear hcap hZ hown
  have hn0 : decide ((n : Int) < 0) = false := by rw [decide_eq_false_iff_not]; omega
  have hn1 : decide ((0 : Int) < (n : Int)) = true := by rw [decide_eq_true_eq]; omega
  have Hown := Lib.hid hown'
  have Happ := Lib.hid happ
  clear hown' happ
  go_enter Try.func78, Try.ntmps78
  go_wp2_with (at_builtin; refine Lib.wpList_append_run _ rfl _ _ _ _ rfl _ _ rfl rfl _ _ Happ.out ?_)
  go_ret
  exact ⟨_, rfl, Hown.out, (Below.refl _ w).drew.alloc (Nat.le_refl _) _⟩
theorem igrow_nil (n : Nat) (w : World) (hlen : n ≤ 8796093022208) :
    Calls Try.prog 78 #[.slice none 0 0, .int .i64 (n : Int)] w fun e w' => ∃ v, e = .returned v ∧ w'.ownsRow w.heap.size 3 1 v 0 [] ∧ Below w.heap.size w w' := by
  by_cases h0 : 0 < n
  · exact igrow_more n w h0 hlen
  · obtain rfl : n = 0 := by omega
    exact igrow_zero w

set_option maxRecDepth 100000 in
set_option maxHeartbeats 1000000 in
theorem iconcat_own (g : Nat) (A B : Option Addr) (n c m d : Nat) (xs ys : List Int) (w : World) (hn : xs.length = n) (hm : ys.length = m) (hlen : n + m ≤ 8796093022208)
    (hx : Rd w A (ints xs)) (hy : Rd w B (ints ys)) (hg : g < w.heap.size) (hgx : w.cell? ⟨g, 0, none⟩ = some (.slice A n c)) (hgy : w.cell? ⟨g, 1, none⟩ = some (.slice B m d)) :
    Calls Try.prog 54 #[.slice (some ⟨g, 0, none⟩) 2 2] w fun e w' => ∃ v, e = .returned v ∧ w'.ownsRow w.heap.size 3 1 v (xs ++ ys).length (ints (xs ++ ys)) ∧ Below w.heap.size w w' := by
  obtain ⟨i0, hi, hz0, hz1, hz2⟩ := info_parts info_int
  go_enter Try.func54, Try.ntmps54
  go_wp2
  go_loop [3, 11] (fun s i => ∃ k sz : Nat, k ≤ 2 ∧ i = .int .i64 k ∧ s = .int .i64 sz ∧ sz = (if k = 0 then 0 else if k = 1 then n else n + m)) (fun _ i => 2 - (intOf i).toNat)
  case atStart => exact ⟨0, 0, by omega, rfl, rfl, rfl⟩
  case round =>
    obtain ⟨k, sz, hk, rfl, rfl, hsz⟩ := hrel
    have hk3 : k = 0 ∨ k = 1 ∨ k = 2 := by omega
    rcases hk3 with rfl | rfl | rfl
    · simp only [if_pos] at hsz
      subst hsz
      go_wp2
      refine ⟨⟨1, n, by omega, by go_num, by go_num, rfl⟩, ?_⟩
      simp [intOf]
    · simp only [Nat.one_ne_zero, if_false, if_true] at hsz
      subst hsz
      go_wp2
      refine ⟨⟨2, sz + m, by omega, by go_num, by go_num, rfl⟩, ?_⟩
      simp [intOf]
    · obtain rfl : sz = n + m := hsz
      have Hgr := Lib.hid (igrow_nil (n + m) w hlen)
      go_wp2_with fail
      refine Hgr.out.mono ?_
      rintro e w1 ⟨v, rfl, hown, hB⟩
      clear Hgr
      go_wp2
      go_loopw [6, 27] (fun v i wr => ∃ (k : Nat) (pre : List Int), k ≤ 2 ∧ i = .int .i64 k ∧ pre = (if k = 0 then [] else if k = 1 then xs else xs ++ ys) ∧ wr.ownsRow w.heap.size 3 1 v pre.length (ints pre) ∧ Below w.heap.size w wr) (fun _ i _ => 2 - (intOf i).toNat)
      case atStart => exact ⟨0, [], by omega, rfl, rfl, hown, hB⟩
      case round =>
        obtain ⟨k, pre, hk, rfl, hpre, hownr, hBr⟩ := hrel
        have hsz := hBr.size
        have hk3 : k = 0 ∨ k = 1 ∨ k = 2 := by omega
        rcases hk3 with rfl | rfl | rfl
        · obtain rfl : pre = [] := hpre
          have hxr := hx.below hBr
          have hgx' := (hBr.cell (p := ⟨g, 0, none⟩) hg).trans hgx
          go_wp2_with (at_builtin; refine wpList_app rfl (.tmp 31) (.tmp 32) 26 rfl w.heap.size 3 i0 (.int .i64 0) 8 Try.underlying26 hi hz0 hz1 hz2 rfl _ 0 [] rfl hownr A n c (ints xs) rfl (by rw [ints_length, hn]) hxr (ints_one _) (by simp only [maxLen]; omega) (by omega) hsz ?_; intro v4 w4 hown4 hg4 _)
          refine ⟨⟨1, xs, by omega, by go_num, rfl, ?_, hBr.grown hg4 hsz (fun k hk => (hownr.lt k hk).1)⟩, ?_⟩
          · rw [hn]; simpa using hown4
          · simp [intOf]
        · obtain rfl : pre = xs := hpre
          have hyr := hy.below hBr
          have hgy' := (hBr.cell (p := ⟨g, 1, none⟩) hg).trans hgy
          rw [hn] at hownr
          go_wp2_with (at_builtin; refine wpList_app rfl (.tmp 31) (.tmp 32) 26 rfl w.heap.size 3 i0 (.int .i64 0) 8 Try.underlying26 hi hz0 hz1 hz2 rfl _ n (ints pre) rfl hownr B m d (ints ys) rfl (by rw [ints_length, hm]) hyr (ints_one _) (by simp only [maxLen]; omega) (by omega) hsz ?_; intro v4 w4 hown4 hg4 _)
          refine ⟨⟨2, pre ++ ys, by omega, by go_num, rfl, ?_, hBr.grown hg4 hsz (fun k hk => (hownr.lt k hk).1)⟩, ?_⟩
          · rw [List.length_append, hn, hm, ints_append]; exact hown4
          · simp [intOf]
        · obtain rfl : pre = xs ++ ys := hpre
          go_wp2
          go_ret
          exact ⟨_, rfl, hownr, hBr⟩
/-- Ids behind ids, as slices that read. -/
theorem iconcat_any (g : Nat) (A B : Option Addr) (n c m d : Nat) (xs ys : List Int) (w : World) (hlen : n + m ≤ 8796093022208)
    (hx : rIds (All w) w [.slice A n c] xs) (hy : rIds (All w) w [.slice B m d] ys) (hg : g < w.heap.size) (hgx : w.cell? ⟨g, 0, none⟩ = some (.slice A n c)) (hgy : w.cell? ⟨g, 1, none⟩ = some (.slice B m d)) :
    Calls Try.prog 54 #[.slice (some ⟨g, 0, none⟩) 2 2] w fun e w' => ∃ A1 c1, e = .returned (.slice A1 (n + m) c1) ∧ rIds (fun b => w.heap.size ≤ b ∧ b < w'.heap.size) w' [.slice A1 (n + m) c1] (xs ++ ys) ∧ Below w.heap.size w w' := by
  obtain ⟨r1, f1⟩ := ids_rd hx
  obtain ⟨r2, f2⟩ := ids_rd hy
  obtain ⟨l1, -, -⟩ := slice_len hx
  obtain ⟨l2, -, -⟩ := slice_len hy
  refine (iconcat_own g A B n c m d xs ys w l1 l2 hlen r1 r2 hg hgx hgy).mono ?_
  rintro e w' ⟨v, rfl, ho, hB⟩
  obtain ⟨A1, c1, rfl, -⟩ := own_slice ho
  have hl : (xs ++ ys).length = n + m := by rw [List.length_append]; omega
  rw [hl] at ho ⊢
  refine ⟨A1, c1, rfl, ids_own ho hl fun z hz => ?_, hB⟩
  rcases List.mem_append.1 hz with e | e
  · exact f1 z e
  · exact f2 z e
end Go.Proofs.Yteafbdebmhpffaa

/- The map that canon's meet keeps: where each id is in a list of ids (none: -1); an entry of a map that is written out; a slice's rest. No condition. -/
namespace Go.Proofs.Yteafbdebmhpffaa
open Go.RowKit Go.Maps

theorem int_zero (w : World) : (zeroValue 3).run Try.prog w = .ok (.int .i64 0) w := by kernel_rfl
/-- The map in the block b tells where ids of L are, and -1 of -1. -/
def PlM (w : World) (b : Nat) (L : List Int) : Prop := (-1 : Int) ∉ L ∧ ∃ D : DataW Unit, w.ownsMap Try.prog 3 (plainElem Try.prog 3) b (L.length + 1) D ∧
  ∀ x, (Lit.int .i64 x).wf = true → Maps.has D (.int .i64 x) = decide (x = -1 ∨ x ∈ L) ∧ ((x = -1 ∨ x ∈ L) → D.atKey (.int .i64 x) (.lit (.int .i64 0)) = .lit (.int .i64 (atL L x)))
theorem PlM.kept {w w' : World} {b : Nat} {L : List Int} {row : Option Nat} (h : PlM w b L) (hg : w.grownBy w' row) (hn : some b ≠ row) : PlM w' b L := by
  obtain ⟨h0, D, h1, h2⟩ := h
  exact ⟨h0, D, h1.kept hg hn, h2⟩
theorem PlM.below {w w' : World} {b : Nat} {L : List Int} (h : PlM w b L) (hB : Below w.heap.size w w') : PlM w' b L := h.kept (below_grown hB none) (by simp)
theorem PlM.lt {w : World} {b : Nat} {L : List Int} (h : PlM w b L) : b < w.heap.size := by
  obtain ⟨-, D, h1, -⟩ := h
  exact h1.lt
theorem PlM.start {w : World} {b : Nat} (h : w.ownsMap Try.prog 3 (plainElem (H := Unit) Try.prog 3) b 1 ((DataW.map []).put (.int .i64 (-1)) (.lit (.int .i64 (-1))))) : PlM w b [] := by
  refine ⟨by simp, _, h, fun x _ => ?_⟩
  by_cases e : x = -1
  · subst e
    exact ⟨by rw [has_put_same isMap_empty (by trivial)]; simp, fun _ => by rw [atKey_put_same isMap_empty (by trivial)]; rfl⟩
  · refine ⟨by rw [has_put_other (by simpa using e)]; simp [e, Maps.has], fun h => ?_⟩
    simp [e] at h
theorem PlM.add {D : DataW Unit} {w : World} {b : Nat} {L : List Int} {x : Int} (h : w.ownsMap Try.prog 3 (plainElem Try.prog 3) b (L.length + 1 + 1) (D.put (.int .i64 x) (.lit (.int .i64 (L.length : Int))))) (hm : IsMap D) (h0 : (-1 : Int) ∉ L) (hx : ¬ (x = -1 ∨ x ∈ L))
    (hh : ∀ y, (Lit.int .i64 y).wf = true → Maps.has D (.int .i64 y) = decide (y = -1 ∨ y ∈ L) ∧ ((y = -1 ∨ y ∈ L) → D.atKey (.int .i64 y) (.lit (.int .i64 0)) = .lit (.int .i64 (atL L y)))) : PlM w b (L ++ [x]) := by
  refine ⟨by simp [h0]; intro e; exact hx (.inl e.symm), _, by rw [List.length_append]; exact h, fun y hy => ?_⟩
  by_cases e : y = x
  · subst e
    refine ⟨by rw [has_put_same hm (by trivial)]; simp, fun _ => ?_⟩
    rw [atKey_put_same hm (by trivial), atL_last fun e => hx (.inr e)]
  · obtain ⟨h1, h2⟩ := hh y hy
    refine ⟨by rw [has_put_other (by simpa using e), h1]; simp [e], fun h => ?_⟩
    rw [atKey_put_other (by simpa using e), atL_more (.inr e)]
    refine h2 ?_
    simpa [e] using h
/-- A look-up of an id that is there. -/
theorem PlM.look {w : World} {b : Nat} {L : List Int} (h : PlM w b L) {x : Int} (hx : x = -1 ∨ x ∈ L) (hw : (Lit.int .i64 x).wf = true) : (Instr.lookup 56 (.map (some b)) (.int .i64 x) false).run Try.prog w = .ok (.int .i64 (atL L x)) w := by
  obtain ⟨-, D, h1, h2⟩ := h
  obtain ⟨c, e1, e2, -⟩ := h1.lookup_int (t := 56) (e := 3) (q := .i64) come_law Try.underlying56 Try.underlying3 (int_zero w) (keyOf_int_mk Try.underlying3 hw)
  rw [(h2 x hw).2 hx] at e2
  have e3 : atL L x = c := (Lit.int.inj (DataW.lit.inj e2)).2
  rw [e1, e3]
theorem atL_wf {L : List Int} (h : L.length ≤ 8) (x : Int) : -1 ≤ atL L x ∧ atL L x ≤ 8 := by
  by_cases hx : x ∈ L
  · obtain ⟨i, e1, e2⟩ := atL_mem hx
    have := (List.getElem?_eq_some_iff.1 e2).1
    rw [e1]
    omega
  · rw [atL_none.2 hx]
    omega

/-- An entry of a map that is written out. -/
theorem wpList_insert_own {H : Type} {P : Program} (w : World) {ops : Array Oper} {rest : List Oper} {o : Oper} {a : Act} {Q : Exit → Act → World → Prop}
    (hg : o.guard = none) (m x v : Operand) (t : TypeId) (hop : o.op = Op.insert t m x v)
    (k e : TypeId) (K : Keyed P k) (ht : P.underlying t = some (.map k e)) (R : Value → Option (DataW H × List MemPlace)) (b n : Nat) (D : DataW H)
    (hm : a.eval m = .map (some b)) (hown : w.ownsMap P k R b n D) (hn : n < maxLen) (key val : Value) (kl : Lit) (hx : a.eval x = key) (hv : a.eval v = val) (hkey : keyOf P k key = some kl)
    (d : DataW H) (ps : List MemPlace) (hval : R val = some (d, ps))
    (hK : ∀ w', w'.ownsMap P k R b (n + 1) (D.put kl d) → w.grownBy w' (some b) → wpList P ops Q rest (a.put o.dst undef) w') :
    wpList P ops Q (o :: rest) a w := by
  refine wpList_plain hg fun K' hK' => ?_
  obtain ⟨w', hrun, r1, r2⟩ := hown.update K ht hn hkey hval
  unfold Oper.wp
  simp [execOp, hop, hm, hx, hv, hrun, Result.andThen]
  exact hK' _ _ (hK w' r1 r2)

/-- A slice's rest, behind a place. -/
theorem run_tail {P : Program} {t e : TypeId} {i : TypeInfo} (ht : P.underlying t = some (.slice e)) (hi : P.info? e = some i) (hs : i.size = 1) (A : Option Addr) (n c l : Nat) (hlh : l + 1 ≤ n) (W : World) :
    (Instr.slice t (.slice A n c) (some (.int .i64 ((l : Int) + 1))) none none).run P W = .ok (.slice (slA A c (l + 1)) (n - (l + 1)) (c - (l + 1))) W := by
  have h2 : (0 : Int) ≤ (l : Int) + 1 ∧ (l : Int) + 1 ≤ (n : Int) := by omega
  have h3 : ((l : Int) + 1).toNat = l + 1 := by omega
  simp [Instr.slice, Instr.sliceBounds, Instr.sliceBound, asIntOf, run_underlying ht, sizeOf, typeInfo, hi, hs, h2, h3, slA]
theorem RdIn.cut {S : Nat → Prop} {w : World} {A : Option Addr} {xs : List Value} {c : Nat} (h : RdIn S w A xs) (hc : xs.length ≤ c) (l : Nat) : RdIn S w (slA A c l) (xs.drop l) := by
  unfold slA
  by_cases e : c = l
  · exact .inl (List.drop_eq_nil_of_le (by omega))
  · rw [if_neg e]
    rcases h with rfl | ⟨b, off, rfl, hb, hcl⟩
    · exact .inl (by simp)
    · rw [Option.map_some, addr_add]
      refine .inr ⟨b, off + l, rfl, hb, fun j u hu => ?_⟩
      rw [List.getElem?_drop] at hu
      rw [Nat.add_assoc]
      exact hcl _ u hu
theorem rIds_cut {S : Nat → Prop} {w : World} {A : Option Addr} {n c : Nat} {q : List Int} (h : rIds S w [.slice A n c] q) (k : Nat) : rIds S w [.slice (slA A c k) (n - k) (c - k)] (q.drop k) := by
  obtain ⟨A1, c1, xs, h1, h2, h3, h4, h5⟩ := h
  simp only [List.cons.injEq, Value.slice.injEq, and_true] at h1
  obtain ⟨rfl, rfl, rfl⟩ := h1
  have hl : xs.length = q.length := by rw [h5.1, Nat.mul_one]
  refine ⟨slA A c k, c - k, xs.drop k, by rw [List.length_drop], by rw [List.length_drop]; omega, by omega, h4.cut (by omega) k, ?_⟩
  have := h5.drop k
  rwa [Nat.mul_one] at this
end Go.Proofs.Yteafbdebmhpffaa

/- The contract of canon's meet: the ids in the document's order, and where each is. Condition: a graph that may be. -/
namespace Go.Proofs.Yteafbdebmhpffaa
open Go.RowKit Go.Maps

/-- What stands in memory while objects are met: the ids (v4), those that wait, and the map in the first new block. -/
structure MeetW (g : Gr) (w1 : World) (v4 : Value) (l q : List Int) (A6 : Option Addr) (n6 c6 : Nat) (w : World) : Prop where
  bel : Below w1.heap.size w1 w
  own : w.ownsRow (w1.heap.size + 1) 3 1 v4 l.length (ints l)
  pl : PlM w w1.heap.size l
  led : rIds (fun b => b < w.heap.size ∧ b ≠ w1.heap.size ∧ some b ≠ v4.ownBlock) w [.slice A6 n6 c6] q
  mt : Meets g l q
  few : q.length ≤ 3 + 5 * l.length
section
variable {g : Gr} {w w1 w2 w3 wz : World} {v4 v5 : Value} {l q : List Int} {x : Int} {A6 A7 : Option Addr} {n6 c6 n7 c7 : Nat} {o : Obj}
theorem MeetW.take (h : MeetW g w1 v4 l q A6 n6 c6 w) (hg1 : w.grownBy w2 (some w1.heap.size)) (hpl : PlM w2 w1.heap.size (l ++ [x])) (hg2 : (w2.alloc o).grownBy w3 v4.ownBlock)
    (hown : w3.ownsRow (w1.heap.size + 1) 3 1 v5 (l.length + 1) (ints l ++ ints [x])) (hv : v5.ownBlock = v4.ownBlock ∨ v5.ownBlock = some (w2.alloc o).heap.size) :
    Below w1.heap.size w1 w3 ∧ w3.ownsRow (w1.heap.size + 1) 3 1 v5 (l ++ [x]).length (ints (l ++ [x])) ∧ PlM w3 w1.heap.size (l ++ [x]) ∧ rIds (fun b => b < w3.heap.size ∧ b ≠ w1.heap.size ∧ some b ≠ v5.ownBlock) w3 [.slice A6 n6 c6] q := by
  have hs := h.bel.size
  have hB2 : Below w1.heap.size w1 w2 := h.bel.grown hg1 hs (fun k hk => by cases hk; exact Nat.le_refl _)
  have hB3 := hB2.alloc hB2.size o
  have hlo : ∀ k, v4.ownBlock = some k → w1.heap.size + 1 ≤ k ∧ k < w.heap.size := fun k hk => h.own.lt k hk
  refine ⟨hB3.grown hg2 hB3.size (fun k hk => by have := (hlo k hk).1; omega), by rw [List.length_append, ints_append]; exact hown, ?_, ?_⟩
  · refine (hpl.below ((Below.refl _ w2).alloc (Nat.le_refl _) o)).kept hg2 fun e => ?_
    have := (hlo _ e.symm).1
    omega
  · refine rIds_stays.to (fun b hb => ?_) h.led
    obtain ⟨b1, b2, b3⟩ := hb
    have s1 := hg1.size
    have s2 := hg2.size
    have s3 : (w2.alloc o).heap.size = w2.heap.size + 1 := by simp
    refine ⟨⟨by omega, b2, ?_⟩, ?_⟩
    · rcases hv with e | e
      · rw [e]; exact b3
      · rw [e]; intro e2; injection e2 with e2; omega
    · rw [hg2.block b (by omega) b3, Below.heap_alloc _ _ _ (by omega), hg1.block b b1 (by simpa using b2)]
end

theorem refs_len {g : Gr} (hm : mayG g = true) {o : Ob} (_ : o ∈ g.2.1) : (refsL g.1 o).length ≤ 5 := by
  rw [← refsT_all]
  exact Nat.le_trans (refsT_len _ _ _) (fields_few hm _)

set_option maxRecDepth 100000 in
set_option maxHeartbeats 4000000 in
theorem meet_any (A B C : Option Addr) (N c M d K e : Nat) (g : Gr) (w : World) (hmay : mayG g = true) (h : rGr (All w) w [.slice A N c, .slice B M d, .slice C K e] g) :
    Calls Try.prog 32 #[.agg #[.slice A N c, .slice B M d, .slice C K e]] w fun e w' => ∃ A1 c1 Mb, e = .returned (.tuple #[.slice A1 (ordG g).length c1, .map (some Mb)]) ∧ w'.ownsRow w.heap.size 3 1 (.slice A1 (ordG g).length c1) (ordG g).length (ints (ordG g)) ∧ PlM w' Mb (ordG g) ∧ w.heap.size ≤ Mb ∧ Below w.heap.size w w' := by
  obtain ⟨i0, hi, hz0, hz1, hz2⟩ := info_parts info_int
  have hmm := @run_makeMap Try.prog
  obtain ⟨hK, hKe, hem⟩ := slice_len (rGr_open h).2.2
  have hB0 : Below w.heap.size w (w.alloc (.cells #[.slice A N c, .slice B M d, .slice C K e] 28)) := (Below.refl _ w).alloc (Nat.le_refl _) _
  have p0 := Blk.new w 28 [.slice A N c, .slice B M d, .slice C K e]
  have hs1 : (w.alloc (.cells #[.slice A N c, .slice B M d, .slice C K e] 28)).heap.size = w.heap.size + 1 := by simp
  have Hown := Lib.hid (World.ownsMap_made (H := Unit) (w.alloc (.cells #[.slice A N c, .slice B M d, .slice C K e] 28)) Try.prog 3 (plainElem Try.prog 3))
  have hwf1 : (Lit.int .i64 (-1)).wf = true := by decide
  have hkey1 : keyOf Try.prog 3 (.int .i64 (-1)) = some (.int .i64 (-1)) := keyOf_int_mk Try.underlying3 hwf1
  rw [hs1] at Hown
  obtain ⟨wm, hrun1, hown1, hgrow1⟩ := Hown.out.update come_law Try.underlying56 (by simp only [maxLen]; omega) hkey1 (plainElem_int Try.underlying3 hwf1)
  have Hr := Lib.hid (rGr_open h).2.2
  have h1 := gr_below hB0 h
  have HB0 := Lib.hid hB0
  have Hp0 := Lib.hid p0
  have H1 := Lib.hid h1
  have h3 := (mayG_parts hmay).2.2.2.1
  have HPl := Lib.hid (PlM.start hown1)
  have hB1 : Below (w.alloc (.cells #[.slice A N c, .slice B M d, .slice C K e] 28)).heap.size (w.alloc (.cells #[.slice A N c, .slice B M d, .slice C K e] 28)) wm := ((Below.refl _ _).alloc (Nat.le_refl _) _).grown hgrow1 (by simp) (fun k hk => by cases hk; omega)
  have HB1 := Lib.hid hB1
  have g2 := (Hp0.out.below (by simp) hB1).cell (j := 2) rfl
  clear Hown hown1 hgrow1 hB1 hkey1
  clear h hB0 h1 p0
  go_enter Try.func32, Try.ntmps32
  go_wp2
  go_step3
  go_wp2
  go_step3
  go_wp2
  generalize w.alloc (.cells #[.slice A N c, .slice B M d, .slice C K e] 28) = w1 at *
  clear hrun1 g2
  go_loopg [4, 6] 9 (fun gk v4 v6 wr => ∃ (l q : List Int) (A6 : Option Addr) (n6 c6 : Nat), gk + l.length = 9 ∧ v6 = .slice A6 n6 c6 ∧ Hid (MeetW g w1 v4 l q A6 n6 c6 wr))
  case atStart => exact ⟨[], g.2.2, C, K, e, rfl, rfl, Lib.hid ⟨HB1.out, World.ownsRow_nil _ _ _ _, by rw [hs1]; exact HPl.out, rIds_stays.to (fun b hb => ⟨⟨by have := HB1.out.size; have : b < w.heap.size := hb; omega, by have : b < w.heap.size := hb; omega, by simp [Value.ownBlock]⟩, by
    have hb : b < w.heap.size := hb
    rw [HB1.out.block b (by omega), HB0.out.block b hb]⟩) Hr.out, Meets.start hmay, by simp; omega⟩⟩
  case round =>
    obtain ⟨l, q, A6, n6, c6, hgk, rfl, hM⟩ := hrel
    clear HPl HB1 Hr hK hKe hem h3 hwf1
    obtain ⟨hq, hqc, hcm⟩ := slice_len hM.out.led
    obtain ⟨A4, c4, rfl, -⟩ := own_slice hM.out.own
    simp only [maxLen] at hcm
    have h8 := hM.out.mt.few hmay
    have hqf := hM.out.few
    go_wp2
    go_loopg [4, 6, 17] n6 (fun g2 v4 v6 v17 wy => ∃ i : Nat, i + g2 = n6 ∧ v4 = .slice A4 l.length c4 ∧ v6 = .slice A6 n6 c6 ∧ v17 = .int .i64 (i : Int) ∧ Hid (Meets g l (q.drop i)) ∧ wr = wy)
    case atStart => exact ⟨0, by omega, rfl, rfl, rfl, Lib.hid hM.out.mt, rfl⟩
    case round =>
      obtain ⟨i, hig, rfl, rfl, rfl, hmt, rfl⟩ := hrel
      by_cases hin : i < n6
      · obtain ⟨x, hx⟩ : ∃ x, q[i]? = some x := ⟨_, List.getElem?_eq_getElem (by omega)⟩
        have hdrop : q.drop i = x :: q.drop (i + 1) := by
          rw [List.drop_eq_getElem_cons (by omega)]
          congr 1
          rw [List.getElem?_eq_getElem (by omega)] at hx
          injection hx
        rw [hdrop] at hmt
        obtain ⟨b, off, rfl, hb, hx1, hxb⟩ := id_at hM.out.led hx
        have hil : (i : Int) < (n6 : Int) := by omega
        have hi0 : (0 : Int) ≤ (i : Int) := by omega
        have hkey : keyOf Try.prog 3 (.int .i64 x) = some (.int .i64 x) := keyOf_int_mk Try.underlying3 (WalkArith.wf_i64 hxb)
        have hpl := hM.out.pl
        rw [hs1] at hpl
        obtain ⟨hneg, D, hown, hhas⟩ := hpl
        have hh := (hhas x (WalkArith.wf_i64 hxb)).1
        have Hhas := Lib.hid hhas
        clear hhas hx hdrop
        by_cases hxl : x = -1 ∨ x ∈ l
        · rw [decide_eq_true hxl] at hh
          have Hs := Lib.hid (hmt.out.skip hxl)
          clear hxl
          go_wp2_with (first
            | (at_lookup; refine wpList_lookup_own_ok_int _ rfl _ _ 56 rfl 3 3 .i64 come_law Try.underlying56 Try.underlying3 (int_zero _) (w.heap.size + 1) (l.length + 1) D rfl hown _ _ rfl hkey ?_; intro cc hat hwc; rw [hh])
            | fail)
          go_roundg (n6 - (i + 1))
          case measure => omega
          case rel => exact ⟨i + 1, by omega, rfl, rfl, by go_num, Hs, rfl⟩
        · rw [decide_eq_false hxl] at hh
          obtain ⟨⟨ob, hob, hobx⟩, hl8, hmet⟩ := hmt.out.met hmay hxl
          have hobj : objG g.2.1 x = ob := by rw [← hobx]; exact obj_of hmay hob
          rw [hobj] at hmet
          have Hmet := Lib.hid hmet
          have HpA := Lib.hid (fun (W : World) (h : W.ownsMap Try.prog 3 (plainElem Try.prog 3) (w.heap.size + 1) (l.length + 1 + 1) (D.put (.int .i64 x) (.lit (.int .i64 (l.length : Int))))) => PlM.add h hown.isMap hneg hxl Hhas.out)
          have hlm : l.length + 1 < maxLen := by simp only [maxLen]; omega
          have hwl : (Lit.int .i64 (l.length : Int)).wf = true := WalkArith.wf_i64 ⟨by omega, by omega⟩
          have Hko := Lib.hid (fun (W : World) (hg : wr.grownBy W (some (w.heap.size + 1))) => own_keep hM.out.own (fun b hb hlt => hg.block b hlt (by rw [hs1] at hb; intro e; injection e with e; omega)))
          have hwr := hM.out.bel.size
          clear hxl hobj hmt Hhas hneg hmet
          go_wp2_with (first
            | (at_lookup; refine wpList_lookup_own_ok_int _ rfl _ _ 56 rfl 3 3 .i64 come_law Try.underlying56 Try.underlying3 (int_zero _) (w.heap.size + 1) (l.length + 1) D rfl hown _ _ rfl hkey ?_; intro cc hat hwc; rw [hh])
            | (at_mapUpdate; refine wpList_mapUpdate_own _ rfl _ _ _ 56 rfl 3 3 come_law Try.underlying56 (plainElem (H := Unit) Try.prog 3) (w.heap.size + 1) (l.length + 1) D rfl hown hlm _ _ _ rfl rfl hkey _ [] (plainElem_int Try.underlying3 hwl) ?_; intro w2 hown2 hgrow2)
            | (at_builtin; refine wpList_app rfl (.tmp 33) (.tmp 35) 26 rfl (w1.heap.size + 1) 3 i0 (.int .i64 0) 8 Try.underlying26 hi hz0 hz1 hz2 rfl (.slice A4 l.length c4) l.length (ints l) rfl ((Hko.out _ hgrow2).alloc _) (some ⟨w2.heap.size, 0, none⟩) 1 1 (ints [x]) rfl rfl (lit_ints _ [x]) (ints_one _) (by simp only [maxLen]; omega) (by omega) (by have := hgrow2.size; have := hM.out.own; simp; omega) ?_; intro v5 w3 hown3 hg3 hv3)
            | fail)
          obtain ⟨hB3, hown3', hpl3, hled3⟩ := hM.out.take (by rw [hs1]; exact hgrow2) (by rw [hs1]; exact HpA.out _ hown2) hg3 hown3 hv3
          have lg : w.heap.size < w1.heap.size := by omega
          have pg := Hp0.out.below lg hB3
          have lg3 := pg.lt
          have HS := Lib.hid (fun (W : World) (hW : Below w3.heap.size w3 W) => And.intro ((hW.cell (p := ⟨w.heap.size, 0, none⟩) lg3).trans (pg.cell (j := 0) rfl)) (And.intro ((hW.cell (p := ⟨w.heap.size, 1, none⟩) lg3).trans (pg.cell (j := 1) rfl)) ((hW.cell (p := ⟨w.heap.size, 2, none⟩) lg3).trans (pg.cell (j := 2) rfl))))
          have hcut := fun W => run_tail Try.underlying26 hi hz1 (some ⟨b, off, none⟩) n6 c6 i (by omega) W
          have hwrap : IntKind.i64.wrap ((i : Int) + 1) = (i : Int) + 1 := IntWalk.i64_in _ (by omega)
          have T1 := Lib.hid (fun W (hW : Below w3.heap.size w3 W) => leads_any A B C N c M d K e g ob W hmay hob (gr_below (hB3.trans (hW.mono hB3.size)) H1.out))
          rw [hobx] at T1
          have Hledc := Lib.hid (rIds_cut hled3 (i + 1))
          have hrl := refs_len hmay hob
          have Hrl : Hid (∀ k, v5.ownBlock = some k → k < w3.heap.size) := Lib.hid fun k hk => (hown3'.lt k hk).2
          have HB3 := Lib.hid hB3
          have Hown3 := Lib.hid hown3'
          have Hpl3 := Lib.hid hpl3
          have hs3 := hB3.size
          clear hB3 hown3' hpl3 hled3 pg hown hown2 hgrow2 hown3 hg3 hv3 hh hat hwc hkey HpA Hko hx1 hb hM
          generalize slA (some ⟨b, off, none⟩) c6 (i + 1) = A7 at *
          generalize hn7 : n6 - (i + 1) = n7 at *
          generalize c6 - (i + 1) = c7 at *
          generalize hrr : refsL g.1 ob = rr at *
          refine sch_start [(0, true), (1, true), (2, true), (3, true), (4, true), (5, true), (6, false), (7, false), (8, false), (9, true)] (fun W => Below w3.heap.size w3 W) (by kernel_rfl) rfl (by kernel_rfl) (fun _ _ _ _ _ h => h) ((Below.refl _ w3).drew) (fun hH => ?_)
          repeat (first | (refine sch_yes (v := ?_) rfl rfl ?_ hH ?_; rotate_left; (focus ((intro W hW; obtain ⟨q0, q1, q2⟩ := HS.out W hW; go_simp) <;> with_reducible rfl)); simp only [Act.put, List.setIfInBounds_toArray, List.set_cons_zero, List.set_cons_succ]) | (refine sch_no rfl rfl hH ?_; simp only [Act.put, List.setIfInBounds_toArray, List.set_cons_zero, List.set_cons_succ]))
          refine sch_call rfl rfl (fun K' hK => ?_)
          go_wp2_with (go_at_call 55; refine (T1.out _ (Below.refl _ w3).drew).mono ?_; rintro e w5 ⟨A5, c5, rfl, hr5, hB5⟩)
          have hD5 := ((Below.refl w3.heap.size w3).drew).trans (hB5.mono ((Below.refl w3.heap.size w3).drew).size)
          refine hK.out _ _ hD5 ?_
          clear hK hH
          have hH := hD5
          refine sch_call rfl rfl (fun K' hK => ?_)
          go_wp2
          have hD6 := hD5.alloc hD5.size (.cells #[.slice A7 n7 c7, .slice A5 rr.length c5] 26)
          have p6 := Blk.new w5 26 [.slice A7 n7 c7, .slice A5 rr.length c5]
          have h56 : Below w5.heap.size w5 (w5.alloc (.cells #[.slice A7 n7 c7, .slice A5 rr.length c5] 26)) := (Below.refl _ w5).alloc (Nat.le_refl _) _
          refine hK.out _ _ hD6 ?_
          clear hK hH
          have hH := hD6
          have l5 : rIds (All (w5.alloc (.cells #[.slice A7 n7 c7, .slice A5 rr.length c5] 26))) (w5.alloc (.cells #[.slice A7 n7 c7, .slice A5 rr.length c5] 26)) [.slice A7 n7 c7] (q.drop (i + 1)) := ids_below hD6 (rIds_stays.to (Keeps.mono fun _ hb => hb.1) Hledc.out)
          have r5 := ids_below h56 (rIds_stays.to (Keeps.mono fun _ hb => hb.2) hr5)
          have T2 := Lib.hid (iconcat_any w5.heap.size A7 A5 n7 c7 rr.length c5 (q.drop (i + 1)) rr _ (by omega) l5 r5 p6.lt (p6.cell (j := 0) rfl) (p6.cell (j := 1) rfl))
          have hs6 : w3.heap.size < (w5.alloc (.cells #[.slice A7 n7 c7, .slice A5 rr.length c5] 26)).heap.size := by have := hD5.size; simp; omega
          clear l5 r5 p6 h56 hr5 T1 Hledc
          generalize w5.alloc (.cells #[.slice A7 n7 c7, .slice A5 rr.length c5] 26) = w6 at *
          refine sch_call rfl rfl (fun K' hK => ?_)
          go_wp2_with (go_at_call 54; refine T2.out.mono ?_; rintro e w8 ⟨A8, c8, rfl, hr8, hB8⟩)
          have hD8 := hD6.trans (hB8.mono hD6.size)
          refine hK.out _ _ hD8 ?_
          clear hK hH
          have hH := hD8
          repeat (first | (refine sch_yes (v := ?_) rfl rfl ?_ hH ?_; rotate_left; (focus ((intro W hW; go_simp) <;> with_reducible rfl)); simp only [Act.put, List.setIfInBounds_toArray, List.set_cons_zero, List.set_cons_succ]) | (refine sch_no rfl rfl hH ?_; simp only [Act.put, List.setIfInBounds_toArray, List.set_cons_zero, List.set_cons_succ]))
          refine sch_done ?_
          go_wp2
          go_roundg (8 - l.length)
          case measure => omega
          case rel =>
            refine ⟨l ++ [x], q.drop (i + 1) ++ rr, A8, n7 + rr.length, c8, by simp; omega, rfl, Lib.hid ⟨HB3.out.trans (hD8.mono HB3.out.size), own_below Hown3.out hD8, Hpl3.out.below hD8, ?_, Hmet.out, ?_⟩⟩
            · refine rIds_stays.to (Keeps.mono fun b hb => ⟨hb.2, by omega, fun e => ?_⟩) hr8
              have := Hrl.out b e.symm
              omega
            · rw [List.length_append, List.length_append, List.length_drop, List.length_singleton]
              omega
      · have hnil : q.drop i = [] := List.drop_eq_nil_of_le (by omega)
        rw [hnil] at hmt
        have Hord := Lib.hid hmt.out.done
        have hil : ¬ ((i : Int) < (n6 : Int)) := by omega
        clear hnil hmt
        go_wp2
        try rw [Exit.noGoto_ret]
        go_ret2
        refine ⟨A4, c4, w.heap.size + 1, by rw [Hord.out]; rfl, ?_, ?_, by omega, HB0.out.trans (hM.out.bel.mono HB0.out.size)⟩
        · rw [Hord.out]; exact own_mono hM.out.own (by omega)
        · rw [Hord.out]; have := hM.out.pl; rwa [hs1] at this
end Go.Proofs.Yteafbdebmhpffaa
