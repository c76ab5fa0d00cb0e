/- The contract of the document's own Canon. Condition: short names. -/
import Derived.Test.YteafbdebmhpffaaRowIn
import Derived.Test.YteafbdebmhpffaaCaCanonAll
import Derived.Test.YteafbdebmhpffaaCaRef2
namespace Go.Proofs.Yteafbdebmhpffaa
open Go.RowKit

theorem canon_ob {g : Gr} (hm : mayG g = true) {i : Nat} {o : Ob} (h : (ordG g)[i]? = some o.1) (ho : o ∈ g.2.1) : (canonG g).2.1[i]? = some ((i : Int), o.2.1, leadV (atL (ordG g)) (fldsG g.1 o.2.1) o.2.2) := by
  have := canon_at hm h
  rwa [canO, obj_of hm ho] at this

set_option maxRecDepth 100000 in
set_option maxHeartbeats 8000000 in
theorem rcanon_any (A B C : Option Addr) (N c M d K e : Nat) (g : Gr) (w : World) (h : rGr (All w) w [.slice A N c, .slice B M d, .slice C K e] g) (htame : tameS g.1) :
    Calls Try.prog 17 #[.agg #[.slice A N c, .slice B M d, .slice C K e]] w fun e w' => ∃ A1 c1 B1 d1 C1 e1, e = .returned (.agg #[.slice A1 (canonG g).1.length c1, .slice B1 (canonG g).2.1.length d1, .slice C1 (canonG g).2.2.length e1]) ∧
      rGr (All w') w' [.slice A1 (canonG g).1.length c1, .slice B1 (canonG g).2.1.length d1, .slice C1 (canonG g).2.2.length e1] (canonG g) ∧ Below w.heap.size w w' := by
  obtain ⟨i0, hi, hz0, hz1, hz2⟩ := info_parts info_obs
  obtain ⟨j0, hj, hy0, hy1, hy2⟩ := info_parts info_int
  obtain ⟨k0, hk, hx0, hx1, hx2⟩ := info_parts info_vals
  obtain ⟨hN, -, hcm⟩ := slice_len (rGr_open h).1
  obtain ⟨hMM, -, -⟩ := slice_len (rGr_open h).2.1
  obtain ⟨hK, -, -⟩ := slice_len (rGr_open h).2.2
  simp only [maxLen] at hcm
  have hB0 : Below w.heap.size w ((w.alloc (.cells #[.slice A N c, .slice B M d, .slice C K e] 28)).alloc (.cells #[.slice none 0 0, .slice none 0 0, .slice none 0 0] 28)) := ((Below.refl _ w).alloc (Nat.le_refl _) _).alloc (by simp) _
  obtain ⟨p1, p2⟩ := blk_two w 28 28 [.slice A N c, .slice B M d, .slice C K e] [.slice none 0 0, .slice none 0 0, .slice none 0 0]
  have s0 : ((w.alloc (.cells #[.slice A N c, .slice B M d, .slice C K e] 28)).alloc (.cells #[.slice none 0 0, .slice none 0 0, .slice none 0 0] 28)).heap.size = w.heap.size + 1 + 1 := by simp
  have T1 := Lib.hid (rgmay_any A B C N c M d K e g _ (gr_below hB0 h) htame)
  have T2 := Lib.hid (fun W (hW : Below w.heap.size w W) => rorder_any A B C N c M d K e g W (gr_below hW h) htame)
  have H00 := Lib.hid hB0
  have c0 := p1.cell (j := 0) rfl
  have c1 := p1.cell (j := 1) rfl
  have c2 := p1.cell (j := 2) rfl
  clear hB0
  go_enter Try.func17, Try.ntmps17
  go_wp2_with fail
  refine T1.out.mono ?_
  rintro e wa ⟨rfl, hBa⟩
  have Ha := Lib.hid (H00.out.trans (hBa.mono H00.out.size))
  have sa : w.heap.size + 1 + 1 ≤ wa.heap.size := by rw [← s0]; exact hBa.size
  replace p1 := p1.to hBa
  replace p2 := p2.to hBa
  clear hBa H00 T1 c0 c1 c2 s0
  by_cases hm : mayG g = true
  rotate_left
  · replace hm : mayG g = false := by simpa using hm
    rw [hm]
    have y0 := p2.cell (j := 0) rfl
    have y1 := p2.cell (j := 1) rfl
    have y2 := p2.cell (j := 2) rfl
    have g0 := p2.frozen 0
    have g1 := p2.frozen 1
    have g2 := p2.frozen 2
    go_wp2
    have P9 := ((p2.set 0 (.slice none 0 0)).set 1 (.slice none 0 0)).set 2 (.slice none 0 0)
    refine ret_cell0 (d := .struct _) (cs := [.slice none 0 0, .slice none 0 0, .slice none 0 0]) rfl P9 rfl rfl rfl rfl rfl ?_
    rw [canonG_no hm]
    refine ⟨none, 0, none, 0, none, 0, rfl, rGr_none _, ?_⟩
    exact ((Ha.out.setCell (p := ⟨w.heap.size + 1, 0, none⟩) (by simp) (.slice none 0 0)).setCell (p := ⟨w.heap.size + 1, 1, none⟩) (by simp) (.slice none 0 0)).setCell (p := ⟨w.heap.size + 1, 2, none⟩) (by simp) (.slice none 0 0)
  rw [hm]
  have hM8 := ordG_few hm
  have hK3 := (mayG_parts hm).2.2.2.1
  rw [hK] at hK3
  have c0 := p1.cell (j := 0) rfl
  have c1 := p1.cell (j := 1) rfl
  have c2 := p1.cell (j := 2) rfl
  go_wp2_with fail
  refine (T2.out _ Ha.out).mono ?_
  rintro e w2 ⟨A4, c4, rfl, hl, hB2⟩
  have s2 := hB2.size
  have p3 := Blk.new w2 28 [.slice A N c, .slice none 0 0, .slice none 0 0]
  have hB3 : Below w2.heap.size w2 (w2.alloc (.cells #[.slice A N c, .slice none 0 0, .slice none 0 0] 28)) := (Below.refl _ w2).alloc (Nat.le_refl _) _
  have hB23 := hB2.trans (hB3.mono hB2.size)
  have s1 : (w2.alloc (.cells #[.slice A N c, .slice none 0 0, .slice none 0 0] 28)).heap.size = w2.heap.size + 1 := by simp
  have H0 := Lib.hid (Ha.out.trans (hB23.mono Ha.out.size))
  have Hg : Hid (rGr (fun k => k < w.heap.size) _ [.slice A N c, .slice B M d, .slice C K e] g) := Lib.hid (rGr_stays.to (S := All w) (fun k hk => ⟨hk, H0.out.block k hk⟩) h)
  have P1 := Lib.hid ((p1.to hB2).to hB3)
  have P2 := Lib.hid ((p2.to hB2).to hB3)
  have P3 := Lib.hid p3
  have Hl0 := Lib.hid (rIds_stays.to (S' := fun k => k < w2.heap.size) (fun k hk => ⟨hk.2, hB3.block k hk.2⟩) hl)
  have hb2 : w.heap.size + 1 + 1 ≤ w2.heap.size := by omega
  replace p1 := p1.to hB2
  clear h hB23 hB2 hB3 p2 p3 hl Ha T2 c0 c1 c2
  have c0 := p1.cell (j := 0) rfl
  have c1 := p1.cell (j := 1) rfl
  have c2 := p1.cell (j := 2) rfl
  obtain ⟨MM, rfl⟩ : ∃ x, x = M := ⟨_, rfl⟩
  generalize hM : (ordG g).length = M at *
  go_wp2
  generalize w2.alloc (.cells #[.slice A N c, .slice none 0 0, .slice none 0 0] 28) = w1 at *
  clear c0 c1 c2 p1 s2 sa
  go_loopw [6] (fun iv w' => ∃ (i : Nat) (vO : Value) (xs : List Value), i ≤ M ∧ iv = .int .i64 (i : Int) ∧ Hid (RowIn w2.heap.size 1 28 38 3 [.slice A N c, .slice none 0 0, .slice none 0 0] w1 vO i xs w') ∧ Hid (Chunks 3 (rOb (fun k => w1.heap.size ≤ k ∧ k < w'.heap.size ∧ some k ≠ vO.ownBlock) w') xs ((canonG g).2.1.take i))) (fun iv _ => M - (intOf iv).toNat)
  case atStart => exact ⟨0, .slice none 0 0, [], by omega, rfl, Lib.hid (RowIn.start P3.out rfl), Lib.hid Chunks.nil⟩
  case round =>
    rename World => wr
    obtain ⟨i, vO, xs, hi', rfl, hO, hch⟩ := hrel
    have hsr := hO.out.bel.size
    by_cases hin : i < M
    · obtain ⟨x, hx⟩ : ∃ x, (ordG g)[i]? = some x := ⟨_, List.getElem?_eq_getElem (by omega)⟩
      obtain ⟨o, hom, rfl, -⟩ := ord_obj hm (List.mem_of_getElem? hx)
      obtain ⟨J, hJ, ho⟩ := obj_place hm hom
      obtain ⟨b4, off4, rfl, hb4, x4, -⟩ := id_at Hl0.out hx
      have hJM : J < MM := by have := (List.getElem?_eq_some_iff.1 ho).1; omega
      have htk := take_at (canon_ob hm hx hom)
      have hmo := mayG_obj hm hom
      have hlv := leadV_len (atL (ordG g)) (fldsG g.1 o.2.1) o.2.2 hmo.len
      obtain ⟨bo, offo, A2, c2, rfl, hbo, x0, x1, x2, hov, ob1, ob2⟩ := ob_at (rGr_open Hg.out).2.1 ho
      obtain ⟨t, ht⟩ : ∃ t : Nat, o.2.1 = (t : Int) := ⟨o.2.1.toNat, by have := hmo.t0; omega⟩
      have htb : (t : Int) ≤ 9223372036854775807 := by rw [← ht]; exact ob2.2
      have htN : t < N := by have := hmo.t1; omega
      have hgt : g.1[t]? = some g.1[t] := List.getElem?_eq_getElem (by omega)
      obtain ⟨bt, offt, st, AF, cF, rfl, hbt, -, y1, -, -, hfs⟩ := typ_at (rGr_open Hg.out).1 hgt
      have hFe := fldsG_at ht hgt
      rw [← hFe] at y1 hfs
      have hlen := hmo.len
      have hol5 : o.2.2.length ≤ 5 := by have := fields_few hm o.2.1; omega
      have hfl : (fldsG g.1 o.2.1).length = o.2.2.length := hlen
      rw [hfl] at y1 hfs
      have hatb := Lib.hid (fun x => atL_wf (L := ordG g) (by omega) x)
      have hl1 : w.heap.size < w1.heap.size := by omega
      have HX := Lib.hid (fun (W : World) (hW : Below w2.heap.size w1 W) => And.intro ((hW.cell (p := ⟨w.heap.size, 0, none⟩) (by show w.heap.size < _; omega)).trans (P1.out.cell (j := 0) rfl)) (And.intro ((hW.cell (p := ⟨w.heap.size, 1, none⟩) (by show w.heap.size < _; omega)).trans (P1.out.cell (j := 1) rfl)) (And.intro ((hW.cell (p := ⟨w.heap.size, 2, none⟩) (by show w.heap.size < _; omega)).trans (P1.out.cell (j := 2) rfl))
        (And.intro ((hW.cell (p := ⟨bo, offo + J * 3, none⟩) (by show bo < _; omega)).trans x0) (And.intro ((hW.cell (p := ⟨bo, offo + J * 3 + 1, none⟩) (by show bo < _; omega)).trans x1) (And.intro ((hW.cell (p := ⟨bo, offo + J * 3 + 2, none⟩) (by show bo < _; omega)).trans x2) ((hW.cell (p := ⟨bt, offt + t * 2 + 1, none⟩) (by show bt < _; omega)).trans y1)))))))
      rw [ht] at HX
      have Htk := Lib.hid htk
      have Hov := Lib.hid hov
      have Hfs := Lib.hid hfs
      have Hlen := Lib.hid hlen
      have Hlv := Lib.hid hlv
      obtain ⟨a0, a1, a2, a3, a4, a5, a6⟩ := HX.out wr hO.out.bel
      have hjl : (J : Int) < (MM : Int) := by omega
      have hi00 : (0 : Int) ≤ (i : Int) := by omega
      have hj00 : (0 : Int) ≤ (J : Int) := by omega
      have hil : (i : Int) < (M : Int) := by omega
      have HSx := Lib.hid (fun (W : World) (hW : Below wr.heap.size wr W) => And.intro (HX.out W (hO.out.bel.trans (hW.mono (by omega)))) (((hO.out.bel.trans (hW.mono (by omega))).cell (p := ⟨b4, off4 + i, none⟩) hb4).trans x4))
      have TFx := Lib.hid (fun W (hW : Below wr.heap.size wr W) => rgfind_any _ _ C N c MM d K e g o.1 W (rGr_stays.to (S' := All _) (fun k hk => ⟨by show k < _; have := hW.size; have : k < w.heap.size := hk; omega, (hO.out.bel.trans (hW.mono (by omega))).block k (by have : k < w.heap.size := hk; omega)⟩) Hg.out))
      rw [hJ] at TFx
      clear a0 a1 a2 a3 a4 a5 a6
      clear ho hom htk hmo hlv hov hfs hlen hfl hFe hgt x0 x1 x2 y1 hx x4 hJ
      generalize hold : o.2.2.length = ol at *
      rw [ht] at Htk
      go_wp2
      go_cut [7] (fun vb wy => ∃ b7 : Nat, vb = .pointer (some ⟨b7, 0, none⟩) ∧ Blk wy b7 38 [.int .i64 o.1, .int .i64 (t : Int), .slice A2 ol c2] ∧ wr.heap.size ≤ b7 ∧ Hid (Below wr.heap.size wr wy))
      case first =>
        refine fr_start (fun W => Below wr.heap.size wr W) 12 (by kernel_rfl) rfl (fun _ _ _ _ _ h => h) (Below.refl _ wr).drew (fun hH => ?_)
        have hDs : wr.heap.size ≤ wr.drew.heap.size := hH.size
        generalize wr.drew = wd at *
        (refine fr_yes 0 (v := ?_) rfl (by kernel_rfl) rfl ?_ hH ?_; rotate_left; (focus ((intro W hW; obtain ⟨⟨a0, a1, a2, a3, a4, a5, a6⟩, n0⟩ := HSx.out W hW; go_simp) <;> with_reducible rfl)); simp only [Act.put, List.setIfInBounds_toArray, List.set_cons_zero, List.set_cons_succ]); (refine fr_yes 1 (v := ?_) rfl (by kernel_rfl) rfl ?_ hH ?_; rotate_left; (focus ((intro W hW; obtain ⟨⟨a0, a1, a2, a3, a4, a5, a6⟩, n0⟩ := HSx.out W hW; go_simp) <;> with_reducible rfl)); simp only [Act.put, List.setIfInBounds_toArray, List.set_cons_zero, List.set_cons_succ]); (refine fr_yes 2 (v := ?_) rfl (by kernel_rfl) rfl ?_ hH ?_; rotate_left; (focus ((intro W hW; obtain ⟨⟨a0, a1, a2, a3, a4, a5, a6⟩, n0⟩ := HSx.out W hW; go_simp) <;> with_reducible rfl)); simp only [Act.put, List.setIfInBounds_toArray, List.set_cons_zero, List.set_cons_succ]); (refine fr_yes 3 (v := ?_) rfl (by kernel_rfl) rfl ?_ hH ?_; rotate_left; (focus ((intro W hW; obtain ⟨⟨a0, a1, a2, a3, a4, a5, a6⟩, n0⟩ := HSx.out W hW; go_simp) <;> with_reducible rfl)); simp only [Act.put, List.setIfInBounds_toArray, List.set_cons_zero, List.set_cons_succ]); (refine fr_yes 4 (v := ?_) rfl (by kernel_rfl) rfl ?_ hH ?_; rotate_left; (focus ((intro W hW; obtain ⟨⟨a0, a1, a2, a3, a4, a5, a6⟩, n0⟩ := HSx.out W hW; go_simp) <;> with_reducible rfl)); simp only [Act.put, List.setIfInBounds_toArray, List.set_cons_zero, List.set_cons_succ]); (refine fr_yes 5 (v := ?_) rfl (by kernel_rfl) rfl ?_ hH ?_; rotate_left; (focus ((intro W hW; obtain ⟨⟨a0, a1, a2, a3, a4, a5, a6⟩, n0⟩ := HSx.out W hW; go_simp) <;> with_reducible rfl)); simp only [Act.put, List.setIfInBounds_toArray, List.set_cons_zero, List.set_cons_succ]); (refine fr_yes 6 (v := ?_) rfl (by kernel_rfl) rfl ?_ hH ?_; rotate_left; (focus ((intro W hW; obtain ⟨⟨a0, a1, a2, a3, a4, a5, a6⟩, n0⟩ := HSx.out W hW; go_simp) <;> with_reducible rfl)); simp only [Act.put, List.setIfInBounds_toArray, List.set_cons_zero, List.set_cons_succ])
        refine fr_op [7, 10] (by kernel_rfl) (by simp) ?_; intro jj hjj; simp only [List.mem_cons, List.not_mem_nil, or_false] at hjj; rcases hjj with rfl | rfl
        · refine ⟨_, rfl, rfl, fun K hK => ?_⟩
          go_wp2_with (go_at_call 28; refine (TFx.out _ hH).mono ?_; rintro e wg ⟨rfl, hCg⟩)
          have hDg := hH.trans (hCg.mono hH.size)
          refine hK.out _ _ hDg ?_
          clear hK hH hCg
          have hH := hDg
          (refine fr_yes 8 (v := ?_) rfl (by kernel_rfl) rfl ?_ hH ?_; rotate_left; (focus ((intro W hW; obtain ⟨⟨a0, a1, a2, a3, a4, a5, a6⟩, n0⟩ := HSx.out W hW; go_simp) <;> with_reducible rfl)); simp only [Act.put, List.setIfInBounds_toArray, List.set_cons_zero, List.set_cons_succ]); (refine fr_yes 9 (v := ?_) rfl (by kernel_rfl) rfl ?_ hH ?_; rotate_left; (focus ((intro W hW; obtain ⟨⟨a0, a1, a2, a3, a4, a5, a6⟩, n0⟩ := HSx.out W hW; go_simp) <;> with_reducible rfl)); simp only [Act.put, List.setIfInBounds_toArray, List.set_cons_zero, List.set_cons_succ])
          refine fr_op [10] (by kernel_rfl) (by simp) ?_; intro jj hjj; simp only [List.mem_cons, List.not_mem_nil, or_false] at hjj; subst hjj; refine ⟨_, rfl, rfl, fun K hK => ?_⟩
          go_wp2
          refine hK.out _ _ (hDg.alloc hDg.size (.cells #[.int .i64 0, .int .i64 0, .slice none 0 0] 38)) ?_
          clear hK hH
          refine fr_op [11] (by kernel_rfl) (by simp) ?_; intro jj hjj; simp only [List.mem_cons, List.not_mem_nil, or_false] at hjj; subst hjj; refine ⟨_, rfl, rfl, fun K hK => ?_⟩
          go_wp2
          have hDe := hDg.alloc hDg.size (.cells #[.int .i64 o.1, .int .i64 (t : Int), .slice A2 ol c2] 38)
          refine hK.out _ _ hDe ?_
          clear hK
          refine fr_done (by kernel_rfl) ?_
          go_wp2
          go_meet
          case rel => exact ⟨_, rfl, Blk.new _ _ [.int .i64 o.1, .int .i64 (t : Int), .slice A2 ol c2], hDg.size, Lib.hid hDe⟩
        · refine ⟨_, rfl, rfl, fun K hK => ?_⟩
          go_wp2
          have hDz := hH.alloc hH.size (.cells #[.int .i64 0, .int .i64 0, .slice none 0 0] 38)
          have vz := Blk.new wd 38 [.int .i64 0, .int .i64 0, .slice none 0 0]
          refine hK.out _ _ hDz ?_
          clear hK hH
          have hH := hDz
          generalize wd.alloc (.cells #[.int .i64 0, .int .i64 0, .slice none 0 0] 38) = wz at *
          refine fr_op [7] (by kernel_rfl) (by simp) ?_; intro jj hjj; simp only [List.mem_cons, List.not_mem_nil, or_false] at hjj; subst hjj; refine ⟨_, rfl, rfl, fun K hK => ?_⟩
          go_wp2_with (go_at_call 28; refine (TFx.out _ hDz).mono ?_; rintro e wg ⟨rfl, hCg⟩)
          have hDg := hDz.trans (hCg.mono hDz.size)
          have vg := vz.to hCg
          refine hK.out _ _ hDg ?_
          clear hK hH hCg hDz vz
          have hH := hDg
          (refine fr_yes 8 (v := ?_) rfl (by kernel_rfl) rfl ?_ hH ?_; rotate_left; (focus ((intro W hW; obtain ⟨⟨a0, a1, a2, a3, a4, a5, a6⟩, n0⟩ := HSx.out W hW; go_simp) <;> with_reducible rfl)); simp only [Act.put, List.setIfInBounds_toArray, List.set_cons_zero, List.set_cons_succ]); (refine fr_yes 9 (v := ?_) rfl (by kernel_rfl) rfl ?_ hH ?_; rotate_left; (focus ((intro W hW; obtain ⟨⟨a0, a1, a2, a3, a4, a5, a6⟩, n0⟩ := HSx.out W hW; go_simp) <;> with_reducible rfl)); simp only [Act.put, List.setIfInBounds_toArray, List.set_cons_zero, List.set_cons_succ])
          have z0 := vg.cell (j := 0) rfl
          have z1 := vg.cell (j := 1) rfl
          have z2 := vg.cell (j := 2) rfl
          have f0 := vg.frozen 0
          have f1 := vg.frozen 1
          have f2 := vg.frozen 2
          refine fr_op [11] (by kernel_rfl) (by simp) ?_; intro jj hjj; simp only [List.mem_cons, List.not_mem_nil, or_false] at hjj; subst hjj; refine ⟨_, rfl, rfl, fun K hK => ?_⟩
          go_wp2
          have hDe := ((hDg.setCell (p := ⟨wd.heap.size, 0, none⟩) hDs (.int .i64 o.1)).setCell (p := ⟨wd.heap.size, 1, none⟩) hDs (.int .i64 (t : Int))).setCell (p := ⟨wd.heap.size, 2, none⟩) hDs (.slice A2 ol c2)
          refine hK.out _ _ hDe ?_
          clear hK hH
          refine fr_done (by kernel_rfl) ?_
          go_wp2
          go_meet
          case rel => exact ⟨_, rfl, ((vg.set 0 (.int .i64 o.1)).set 1 (.int .i64 (t : Int))).set 2 (.slice A2 ol c2), hDs, Lib.hid hDe⟩
      case rest =>
      obtain ⟨b7, rfl, p7, hb7, hBc⟩ := hcut
      have hsc := hBc.out.size
      have hbl := p7.lt
      have q1 := p7.alloc (.cells #[.int .i64 (i : Int), .int .i64 (t : Int), .slice none 0 0] 38)
      have q2 := Blk.new wc 38 [.int .i64 (i : Int), .int .i64 (t : Int), .slice none 0 0]
      have hB2 := hBc.out.alloc hBc.out.size (.cells #[.int .i64 (i : Int), .int .i64 (t : Int), .slice none 0 0] 38)
      have s2 : (wc.alloc (.cells #[.int .i64 (i : Int), .int .i64 (t : Int), .slice none 0 0] 38)).heap.size = 1 + wc.heap.size := by rw [Nat.add_comm]; exact World.size_alloc ..
      have Q1 := Lib.hid q1
      have Q2 := Lib.hid q2
      have HB2 := Lib.hid hB2
      have k1 := p7.cell (j := 1) rfl
      clear q1 q2 hB2 hBc TFx HSx
      go_wp2
      generalize wc.alloc (.cells #[.int .i64 (i : Int), .int .i64 (t : Int), .slice none 0 0] 38) = wi at *
      clear p7 k1
      have Hla := Lib.hid (fun (k : Nat) f v (h1 : (fldsG g.1 o.2.1)[k]? = some f) (h2 : o.2.2[k]? = some v) => leadV_at (atL (ordG g)) h1 h2)
      rw [ht] at Hla
      generalize hlvd : leadV (atL (ordG g)) (fldsG g.1 (t : Int)) o.2.2 = lv at *
      rw [ht] at Hlv Hfs
      rw [hlvd] at Hlv
      clear hlvd
      have hs2 := HB2.out.size
      go_loopw [9] (fun kv w' => ∃ (k : Nat) (vF : Value) (ys : List Value), k ≤ ol ∧ kv = .int .i64 (k : Int) ∧ Hid (RowIn wc.heap.size 2 38 42 3 [.int .i64 (i : Int), .int .i64 (t : Int), .slice none 0 0] wi vF k ys w') ∧ Hid (Chunks 3 (fun cs x => ∀ S W, rVal S W cs x) ys (lv.take k))) (fun kv _ => ol - (intOf kv).toNat)
      case atStart => exact ⟨0, .slice none 0 0, [], by omega, rfl, Lib.hid (RowIn.start Q2.out rfl), Lib.hid Chunks.nil⟩
      case round =>
        rename World => wx
        obtain ⟨k, vF, ys, hk', rfl, hI, hcv⟩ := hrel
        have sx := hI.out.bel.size
        have hBi : Below wr.heap.size wr wx := HB2.out.trans (hI.out.bel.mono (by omega))
        have hBx : Below w2.heap.size w1 wx := hO.out.bel.trans (hBi.mono (by omega))
        have q6 := (hI.out.bel.cell (p := ⟨b7, 2, none⟩) (by show b7 < _; omega)).trans (Q1.out.cell (j := 2) rfl)
        obtain ⟨AF2, cF2, rfl⟩ := own_slice3 hI.out.own
        by_cases hkn : k < ol
        · obtain ⟨v, hv⟩ : ∃ v, o.2.2[k]? = some v := ⟨_, List.getElem?_eq_getElem (by omega)⟩
          obtain ⟨f, hf⟩ : ∃ f, (fldsG g.1 (t : Int))[k]? = some f := ⟨_, List.getElem?_eq_getElem (by have := (slice_len Hfs.out).1; omega)⟩
          have hla := Hla.out k f v hf hv
          have Htv := Lib.hid (take_at hla)
          obtain ⟨bv, offv, sv, rfl, hbv, v0, v1, v2, hsv, hsm, hvn, hvb⟩ := val_at Hov.out hv
          obtain ⟨bf, offf, sx', tx, rfl, hbf, -, m1, -, -, -, -, -, -⟩ := fld_at Hfs.out hf
          have hkl : (k : Int) < (ol : Int) := by omega
          have hk00 : (0 : Int) ≤ (k : Int) := by omega
          obtain ⟨vn, vs, vr⟩ := v
          obtain ⟨fa, fk, fb⟩ := f
          simp only at v0 v1 v2 m1 hsv hvn hvb hla
          have v0' := (hBx.cell (p := ⟨bv, offv + k * 3, none⟩) (by show bv < _; omega)).trans v0
          have v1' := (hBx.cell (p := ⟨bv, offv + k * 3 + 1, none⟩) (by show bv < _; omega)).trans v1
          have v2' := (hBx.cell (p := ⟨bv, offv + k * 3 + 2, none⟩) (by show bv < _; omega)).trans v2
          have hB9 : Below wx.heap.size wx (wx.alloc (.cells #[.int .i64 vn, .string sv, .int .i64 vr] 42)) := (Below.refl _ wx).alloc (Nat.le_refl _) _
          have n9 := Blk.new wx 42 [.int .i64 vn, .string sv, .int .i64 vr]
          have hIy := hI.out.more (by omega) hB9
          have d1b := (hB9.cell (p := ⟨b7, 1, none⟩) (by show b7 < _; omega)).trans ((hI.out.bel.cell (p := ⟨b7, 1, none⟩) (by show b7 < _; omega)).trans (Q1.out.cell (j := 1) rfl))
          have hBy := hBx.trans (hB9.mono (by omega))
          have m1' := (hBy.cell (p := ⟨bf, offf + k * 3 + 1, none⟩) (by show bf < _; omega)).trans m1
          obtain ⟨a0, a1, a2, a3, a4, a5, a6⟩ := HX.out _ hBy
          have d1 := hIy.bx.cell (j := 1) rfl
          have d2 := hIy.bx.cell (j := 2) rfl
          have n0 := n9.cell (j := 0) rfl
          have n1 := n9.cell (j := 1) rfl
          have n2 := n9.cell (j := 2) rfl
          have f2 := n9.frozen 2
          have Hvs := Lib.hid hsv
          have Hwn : Hid ((Lit.int .i64 vn).wf = true) := Lib.hid (WalkArith.wf_i64 hvn)
          have Hwr : Hid ((Lit.int .i64 vr).wf = true) := Lib.hid (WalkArith.wf_i64 hvb)
          have HB9 := Lib.hid hB9
          have N9 := Lib.hid n9
          have sy : (wx.alloc (.cells #[.int .i64 vn, .string sv, .int .i64 vr] 42)).heap.size = wx.heap.size + 1 := by simp
          have HBx := Lib.hid hBx
          clear hv hf hla v0 v1 v2 m1 hsv hvn hvb hB9 n9 hIy hBy hBx hBi
          by_cases h5 : fk = 5
          · subst h5
            rw [if_pos rfl] at Htv
            have hlw := (Hl0.out)
            have TA := Lib.hid (rat_any (some ⟨b4, off4, none⟩) M c4 (ordG g) vr _ (rIds_stays.to (S' := All (wx.alloc (.cells #[.int .i64 vn, .string sv, .int .i64 vr] 42))) (fun k hk => ⟨by show k < _; have : k < w2.heap.size := hk; omega, (HBx.out.trans (HB9.out.mono (by omega))).block k hk⟩) hlw))
            have hax := hatb.out vr
            clear hlw
            generalize atL (ordG g) vr = ax at *
            go_wp2_with fail
            refine TA.out.mono ?_
            rintro e wz ⟨rfl, hwz⟩
            subst hwz
            have hd2 := d2
            clear TA d2
            have d2 := (World.cell?_setCell_far (wx.alloc (.cells #[.int .i64 vn, .string sv, .int .i64 vr] 42)) ⟨wx.heap.size, 2, none⟩ ⟨wc.heap.size, 2, none⟩ (.int .i64 ax) (by show wx.heap.size ≠ wc.heap.size; omega)).trans hd2
            have Hset := Lib.hid (HB9.out.setCell (p := ⟨wx.heap.size, 2, none⟩) (Nat.le_refl _) (.int .i64 ax))
            have N9' := Lib.hid (N9.out.set 2 (.int .i64 ax))
            have z0 := N9'.out.cell (j := 0) rfl
            have z1 := N9'.out.cell (j := 1) rfl
            have z2 := N9'.out.cell (j := 2) rfl
            have Hwj : Hid ((Lit.int .i64 ax).wf = true) := Lib.hid (WalkArith.wf_i64 ⟨by omega, by omega⟩)
            clear N9 hd2 hax
            generalize wx.alloc (.cells #[.int .i64 vn, .string sv, .int .i64 vr] 42) = wz at *
            have szx : wx.heap.size ≤ wz.heap.size := by omega
            clear sy
            have ssz : (wz.setCell ⟨wx.heap.size, 2, none⟩ (.int .i64 ax)).heap.size = wz.heap.size := by simp
            have hIt := hI.out.more (by omega) (Hset.out)
            have t1 : k + 1 ≤ maxLen := by simp only [maxLen]; omega
            have t2 : (k + 1) * 32 ≤ 140737488355328 := by omega
            have t3 : wi.heap.size ≤ ((wz.setCell ⟨wx.heap.size, 2, none⟩ (.int .i64 ax)).alloc (.cells #[.int .i64 vn, .string sv, .int .i64 ax] 42)).heap.size := by have := (Hset.out).size; simp only [World.size_alloc] at this ⊢; omega
            have t4 : Rd ((wz.setCell ⟨wx.heap.size, 2, none⟩ (.int .i64 ax)).alloc (.cells #[.int .i64 vn, .string sv, .int .i64 ax] 42)) (some ⟨wz.heap.size, 0, none⟩) [.int .i64 vn, .string sv, .int .i64 ax] := by have := (Blk.new (wz.setCell ⟨wx.heap.size, 2, none⟩ (.int .i64 ax)) 42 [.int .i64 vn, .string sv, .int .i64 ax]).rd; rwa [ssz] at this
            have t5 := hIt.own.alloc (.cells #[.int .i64 vn, .string sv, .int .i64 ax] 42)
            go_wp2_with (first
              | (at_builtin; refine wpList_apps rfl (.tmp 73) (.tmp 75) 36 rfl wi.heap.size 42 k0 (.agg #[.int .i64 0, .string ⟨#[]⟩, .int .i64 0]) 3 32 Try.underlying36 hk hx0 hx1 hx2 rfl (by omega) (.slice AF2 k cF2) k ys rfl t5 (some ⟨wz.heap.size, 0, none⟩) 1 1 [.int .i64 vn, .string sv, .int .i64 ax] rfl rfl t4 (by simp [Value.oneCell']) t1 t2 t3 ?_; intro v4 w4 hown4 hg4 hv4; obtain ⟨bx4, hR4⟩ := hI.out.step (by omega) (Hset.out) hg4 hown4; obtain ⟨A4, c4, rfl⟩ := own_slice3 hown4; have e4 := bx4.cell (j := 2) rfl; have f4 := bx4.frozen 2; have HR4 := Lib.hid hR4; clear hR4 hown4 hg4 hv4 bx4)
              | fail)
            go_roundw
            case rel => exact ⟨k + 1, _, _, by omega, by go_num, HR4, Lib.hid (by rw [Htv.out]; exact hcv.out.append (Chunks.one rfl fun S W => rVal_mk (v := (vn, vs, ax)) Hvs.out hsm Hwn.out Hwj.out))⟩
            case measure => simp [intOf]; omega
          · have hk5 : (fk == 5) = false := by simpa using h5
            rw [if_neg h5] at Htv
            clear h5
            have hIt := hI.out.more (by omega) (HB9.out)
            have t1 : k + 1 ≤ maxLen := by simp only [maxLen]; omega
            have t2 : (k + 1) * 32 ≤ 140737488355328 := by omega
            have t3 : wi.heap.size ≤ ((wx.alloc (.cells #[.int .i64 vn, .string sv, .int .i64 vr] 42)).alloc (.cells #[.int .i64 vn, .string sv, .int .i64 vr] 42)).heap.size := by have := (HB9.out).size; simp only [World.size_alloc] at this ⊢; omega
            have t4 : Rd ((wx.alloc (.cells #[.int .i64 vn, .string sv, .int .i64 vr] 42)).alloc (.cells #[.int .i64 vn, .string sv, .int .i64 vr] 42)) (some ⟨wx.heap.size + 1, 0, none⟩) [.int .i64 vn, .string sv, .int .i64 vr] := by have := (Blk.new (wx.alloc (.cells #[.int .i64 vn, .string sv, .int .i64 vr] 42)) 42 [.int .i64 vn, .string sv, .int .i64 vr]).rd; rwa [sy] at this
            have t5 := hIt.own.alloc (.cells #[.int .i64 vn, .string sv, .int .i64 vr] 42)
            go_wp2_with (first
              | (at_builtin; refine wpList_apps rfl (.tmp 73) (.tmp 75) 36 rfl wi.heap.size 42 k0 (.agg #[.int .i64 0, .string ⟨#[]⟩, .int .i64 0]) 3 32 Try.underlying36 hk hx0 hx1 hx2 rfl (by omega) (.slice AF2 k cF2) k ys rfl t5 (some ⟨wx.heap.size + 1, 0, none⟩) 1 1 [.int .i64 vn, .string sv, .int .i64 vr] rfl rfl t4 (by simp [Value.oneCell']) t1 t2 t3 ?_; intro v4 w4 hown4 hg4 hv4; obtain ⟨bx4, hR4⟩ := hI.out.step (by omega) (HB9.out) hg4 hown4; obtain ⟨A4, c4, rfl⟩ := own_slice3 hown4; have e4 := bx4.cell (j := 2) rfl; have f4 := bx4.frozen 2; have HR4 := Lib.hid hR4; clear hR4 hown4 hg4 hv4 bx4)
              | fail)
            go_roundw
            case rel => exact ⟨k + 1, _, _, by omega, by go_num, HR4, Lib.hid (by rw [Htv.out]; exact hcv.out.append (Chunks.one rfl fun S W => rVal_mk (v := (vn, vs, vr)) Hvs.out hsm Hwn.out Hwr.out))⟩
            case measure => simp [intOf]; omega
        · have hkol : k = ol := by omega
          rw [List.take_of_length_le (by have := Hlv.out; omega)] at hcv
          have HoF : Hid (wx.ownsRow wi.heap.size 42 3 (.slice AF2 ol cF2) ol ys) := Lib.hid (by have := hI.out.own; rwa [hkol] at this)
          have hval : rOb (fun k => wr.heap.size ≤ k ∧ k < wx.heap.size) wx [.int .i64 (i : Int), .int .i64 (t : Int), .slice AF2 ol cF2] ((i : Int), (t : Int), lv) := by
            have hv := own_vals HoF.out Hlv.out hcv.out
            have hl := HoF.out.lt
            have e := rOb_mk (S := fun k => wr.heap.size ≤ k ∧ k < wx.heap.size) (w := wx) (o := ((i : Int), (t : Int), lv)) (A := AF2) (n := ol) (c := cF2) (show (Lit.int .i64 (i : Int)).wf = true from WalkArith.wf_i64 ⟨by omega, by omega⟩) (show (Lit.int .i64 (t : Int)).wf = true from WalkArith.wf_i64 ⟨by omega, by omega⟩) (rVals_stays.to (Keeps.mono fun b hb => by have := hl b hb; omega) hv)
            exact e
          have q0 := hI.out.bx.cell (j := 0) rfl
          have q1 := hI.out.bx.cell (j := 1) rfl
          have q2 : wx.cell? ⟨wc.heap.size, 2, none⟩ = some (.slice AF2 ol cF2) := by have := hI.out.bx.cell (j := 2) rfl; rwa [hkol] at this
          have hOt := hO.out.more (by omega) hBi
          obtain ⟨Av, cv, rfl⟩ := own_slice3 hO.out.own
          have d1 := hOt.bx.cell (j := 1) rfl
          have t1 : i + 1 ≤ maxLen := by simp only [maxLen]; omega
          have t2 : (i + 1) * 40 ≤ 140737488355328 := by omega
          have t3 : w1.heap.size ≤ (wx.alloc (.cells #[.int .i64 (i : Int), .int .i64 (t : Int), .slice AF2 ol cF2] 38)).heap.size := by simp only [World.size_alloc]; omega
          have t4 := (Blk.new wx 38 [.int .i64 (i : Int), .int .i64 (t : Int), .slice AF2 ol cF2]).rd
          have t5 := hOt.own.alloc (.cells #[.int .i64 (i : Int), .int .i64 (t : Int), .slice AF2 ol cF2] 38)
          have HBi := Lib.hid hBi
          have Hval := Lib.hid hval
          clear hkol hBi hval hOt HX Hov Hfs Hla hatb
          go_wp2_with (first
            | (at_builtin; refine wpList_apps rfl (.tmp 79) (.tmp 81) 25 rfl w1.heap.size 38 i0 (.agg #[.int .i64 0, .int .i64 0, .slice none 0 0]) 3 40 Try.underlying25 hi hz0 hz1 hz2 rfl (by omega) (.slice Av i cv) i xs rfl t5 (some ⟨wx.heap.size, 0, none⟩) 1 1 [.int .i64 (i : Int), .int .i64 (t : Int), .slice AF2 ol cF2] rfl rfl t4 (by simp [Value.oneCell']) t1 t2 t3 ?_; intro v4 w4 hown4 hg4 hv4; obtain ⟨bx4, hR4⟩ := hO.out.step (by omega) HBi.out hg4 hown4; have HC4 := Lib.hid (hO.out.obs (by omega) hch.out HBi.out Hval.out rfl hg4 hv4); obtain ⟨A4, c4, rfl⟩ := own_slice3 hown4; have e4 := bx4.cell (j := 1) rfl; have f4 := bx4.frozen 1; have HR4 := Lib.hid hR4; clear hR4 hown4 hg4 hv4 bx4)
            | fail)
          go_roundw
          case rel => exact ⟨i + 1, _, _, by omega, by go_num, HR4, Lib.hid (by rw [Htk.out]; exact HC4.out)⟩
          case measure => simp [intOf]; omega
    · have hiM : i = M := by omega
      rw [List.take_of_length_le (by rw [canon_len hm]; omega)] at hch
      obtain ⟨Av, cv, rfl⟩ := own_slice3 hO.out.own
      have hOM : Hid (RowIn w2.heap.size 1 28 38 3 [.slice A N c, .slice none 0 0, .slice none 0 0] w1 (.slice Av M cv) M xs wr) := Lib.hid (by have := hO.out; rwa [hiM] at this)
      rw [hiM] at hch
      clear hiM hO
      have hl1 : w.heap.size < w1.heap.size := by omega
      have HX := Lib.hid (fun (W : World) (hW : Below w2.heap.size w1 W) => And.intro ((hW.cell (p := ⟨w.heap.size, 0, none⟩) (by show w.heap.size < _; omega)).trans (P1.out.cell (j := 0) rfl)) (And.intro ((hW.cell (p := ⟨w.heap.size, 1, none⟩) (by show w.heap.size < _; omega)).trans (P1.out.cell (j := 1) rfl)) ((hW.cell (p := ⟨w.heap.size, 2, none⟩) (by show w.heap.size < _; omega)).trans (P1.out.cell (j := 2) rfl))))
      obtain ⟨a0, a1, a2⟩ := HX.out wr hOM.out.bel
      have hrl : (g.2.2.map (atL (ordG g))).length = K := by rw [List.length_map, hK]
      go_wp2
      clear a0 a1 a2
      go_loopw [11] (fun jv w' => ∃ (j : Nat) (v : Value), j ≤ K ∧ jv = .int .i64 (j : Int) ∧ Hid (RowIn w2.heap.size 2 28 3 1 [.slice A N c, .slice Av M cv, .slice none 0 0] wr v j (ints ((g.2.2.map (atL (ordG g))).take j)) w')) (fun jv _ => K - (intOf jv).toNat)
      case atStart => exact ⟨0, .slice none 0 0, by omega, rfl, Lib.hid (RowIn.start hOM.out.bx rfl)⟩
      case round =>
        rename World => wq
        obtain ⟨j, v2, hj', rfl, hR⟩ := hrel
        have sq := hR.out.bel.size
        have hBq : Below w2.heap.size w1 wq := hOM.out.bel.trans hR.out.bel
        obtain ⟨a0, a1, a2⟩ := HX.out wq hBq
        obtain ⟨A2, c2, rfl⟩ := own_slice3 hR.out.own
        by_cases hjn : j < K
        · obtain ⟨x, hx⟩ : ∃ x, g.2.2[j]? = some x := ⟨_, List.getElem?_eq_getElem (by omega)⟩
          have hax : (g.2.2.map (atL (ordG g)))[j]? = some (atL (ordG g) x) := by rw [List.getElem?_map, hx]; rfl
          have Htk := Lib.hid (take_at hax)
          obtain ⟨b, off, rfl, hb, x0, hxb⟩ := id_at (rGr_open Hg.out).2.2 hx
          have hjl : (j : Int) < (K : Int) := by omega
          have hj0 : (0 : Int) ≤ (j : Int) := by omega
          have hlt := hR.out.bx.lt
          have S0 := And.intro (hR.out.bx.cell (j := 2) rfl) (And.intro a2 ((hBq.cell (p := ⟨b, off + j, none⟩) (by show b < _; omega)).trans x0))
          have hlt1 : w.heap.size < wq.heap.size := by omega
          have hbq : b < wq.heap.size := by have : b < w.heap.size := hb; omega
          have HSt := Lib.hid (fun (W : World) (hW : Below wq.heap.size wq W) => And.intro ((hW.cell (p := ⟨w2.heap.size, 2, none⟩) hlt).trans S0.1) (And.intro ((hW.cell (p := ⟨w.heap.size, 2, none⟩) hlt1).trans S0.2.1) ((hW.cell (p := ⟨b, off + j, none⟩) hbq).trans S0.2.2)))
          have TA := Lib.hid (fun W (hW : Below wq.heap.size wq W) => rat_any A4 M c4 (ordG g) x W (rIds_stays.to (S' := All W) (fun k hk => ⟨by show k < _; have := hW.size; have : k < w2.heap.size := hk; omega, by rw [hW.block k (by have : k < w2.heap.size := hk; omega), hBq.block k hk]⟩) Hl0.out))
          have hab := atL_wf (L := ordG g) (by omega) x
          clear hx hax hBq x0 a0 a1
          generalize (g.2.2.map (atL (ordG g))).take j = ra at *
          generalize atL (ordG g) x = ax at *
          go_wp2
          clear a2
          refine scl_start 12 [(0, true), (1, true), (2, true), (3, true), (4, true), (5, true), (6, true), (7, true), (8, false), (9, false), (10, false), (11, true), (12, false)]
            (fun W => W.cell? ⟨w2.heap.size, 2, none⟩ = some (.slice A2 j c2) ∧ W.cell? ⟨w.heap.size, 2, none⟩ = some (.slice (some ⟨b, off, none⟩) K e) ∧ W.cell? ⟨b, off + j, none⟩ = some (.int .i64 x)) (by kernel_rfl) rfl (by kernel_rfl) (fun _ _ _ _ _ h => h) (HSt.out _ (Below.refl _ wq).drew) (fun hH => ?_)
          repeat (first | (refine scl_yes (v := ?_) rfl rfl ?_ hH ?_; rotate_left; (focus ((rintro W ⟨hW1, hW2, hW3⟩; go_simp) <;> with_reducible rfl)); simp only [Act.put, List.setIfInBounds_toArray, List.set_cons_zero, List.set_cons_succ]) | (refine scl_no rfl rfl hH ?_; simp only [Act.put, List.setIfInBounds_toArray, List.set_cons_zero, List.set_cons_succ]))
          refine scl_call rfl rfl (fun K' hK' => ?_)
          go_wp2_with (go_at_call 38; refine (TA.out _ (Below.refl _ wq).drew).mono ?_; rintro e wz ⟨rfl, hwz⟩)
          subst hwz
          refine hK'.out _ _ (fun _ => HSt.out _ (Below.refl _ wq).drew) ?_
          clear hK' hH
          refine scl_call rfl rfl (fun K' hK' => ?_)
          go_wp2
          have hQ1 : Below wq.heap.size wq (wq.drew.alloc (.cells #[.int .i64 ax] 3)) := ((Below.refl _ wq).drew).alloc (Nat.le_refl _) _
          refine hK'.out _ _ (fun _ => HSt.out _ hQ1) ?_
          clear hK'
          have hH := HSt.out _ hQ1
          have t3 : wr.heap.size ≤ (wq.drew.alloc (.cells #[.int .i64 ax] 3)).heap.size := by have := hQ1.size; omega
          have t5 := (own_below hR.out.own (Below.refl _ wq).drew).alloc (.cells #[.int .i64 ax] 3)
          refine scl_call rfl rfl (fun K' hK' => ?_)
          refine wp_app (.tmp 92) (.tmp 100) 26 rfl wr.heap.size 3 j0 (.int .i64 0) 8 Try.underlying26 hj hy0 hy1 hy2 rfl (.slice A2 j c2) j (ints ra) rfl t5 (some ⟨wq.heap.size, 0, none⟩) 1 1 (ints [ax]) rfl rfl (lit_ints wq.drew [ax]) (ints_one _) (by simp only [maxLen]; omega) (by omega) t3 ?_
          intro v4 w4 hown4 hg4 hv4
          obtain ⟨bx4, hR4⟩ := hR.out.step (wq := wq.drew) (by omega) (Below.refl _ wq).drew hg4 hown4
          obtain ⟨A4', c4', rfl⟩ := own_slice3 hown4
          have e4 := bx4.cell (j := 2) rfl
          have f4 := bx4.frozen 2
          have HR4 := Lib.hid hR4
          have S4 := And.intro e4 (And.intro (hg4.cell hH.2.1 (fun e => by have := (hR.out.own.lt w.heap.size e.symm).1; omega)) (hg4.cell hH.2.2 (fun e => by have := (hR.out.own.lt b e.symm).1; have : b < w.heap.size := hb; omega)))
          clear hR4 hown4 hg4 hv4 bx4
          refine hK'.out _ _ (fun _ => S4) ?_
          clear hK' hH
          have hH := S4
          repeat (first | (refine scl_yes (v := ?_) rfl rfl ?_ hH ?_; rotate_left; (focus ((rintro W ⟨hW1, hW2, hW3⟩; go_simp) <;> with_reducible rfl)); simp only [Act.put, List.setIfInBounds_toArray, List.set_cons_zero, List.set_cons_succ]) | (refine scl_no rfl rfl hH ?_; simp only [Act.put, List.setIfInBounds_toArray, List.set_cons_zero, List.set_cons_succ]))
          refine scl_call rfl rfl (fun K' hK' => ?_)
          go_wp2
          refine hK'.out _ _ (fun h => absurd rfl h) ?_
          clear hK' hH
          refine scl_done ?_
          go_wp2
          go_roundw
          case rel => exact ⟨j + 1, _, by omega, by go_num, Lib.hid (by rw [Htk.out, ints_append]; exact HR4.out)⟩
          case measure => simp [intOf]; omega
        · have hjK : j = K := by omega
          have HRK : Hid (RowIn w2.heap.size 2 28 3 1 [.slice A N c, .slice Av M cv, .slice none 0 0] wr (.slice A2 K c2) K (ints (g.2.2.map (atL (ordG g)))) wq) := Lib.hid (by have := hR.out; rwa [List.take_of_length_le (by omega), hjK] at this)
          clear hR hjK
          have e0 := HRK.out.bx.cell (j := 0) rfl
          have e1 := HRK.out.bx.cell (j := 1) rfl
          have e2 := HRK.out.bx.cell (j := 2) rfl
          have r2 : Blk wq (w.heap.size + 1) 28 [.slice none 0 0, .slice none 0 0, .slice none 0 0] := (hBq.block (w.heap.size + 1) (by omega)).trans P2.out
          have y0 := r2.cell (j := 0) rfl
          have y1 := r2.cell (j := 1) rfl
          have y2 := r2.cell (j := 2) rfl
          have g0 := r2.frozen 0
          have g1 := r2.frozen 1
          have g2 := r2.frozen 2
          have HBq := Lib.hid hBq
          clear hBq
          go_wp2
          have P9 := ((r2.set 0 (.slice A N c)).set 1 (.slice Av M cv)).set 2 (.slice A2 K c2)
          refine ret_cell0 (d := .struct _) (cs := [.slice A N c, .slice Av M cv, .slice A2 K c2]) rfl P9 rfl rfl rfl rfl rfl ?_
          rw [canonG_yes hm] at *
          have hol' : ((ordG g).mapIdx (canO g (ordG g))).length = M := by rw [List.length_mapIdx]; exact hM
          have hwf : ∀ r ∈ g.2.2.map (atL (ordG g)), (Lit.int .i64 r).wf = true := fun r hr => by
            obtain ⟨y, -, rfl⟩ := List.mem_map.1 hr
            have := atL_wf (L := ordG g) (by omega) y
            exact WalkArith.wf_i64 ⟨by omega, by omega⟩
          refine ⟨A, c, Av, cv, A2, c2, ?_, ?_, ?_⟩
          · show _ = Ending.returned (Value.agg #[.slice A g.1.length c, .slice Av ((ordG g).mapIdx (canO g (ordG g))).length cv, .slice A2 (g.2.2.map (atL (ordG g))).length c2])
            rw [hN, hol', hrl]
          · show rGr _ _ [.slice A g.1.length c, .slice Av ((ordG g).mapIdx (canO g (ordG g))).length cv, .slice A2 (g.2.2.map (atL (ordG g))).length c2] _
            rw [hN, hol', hrl]
            refine built_graph (S := fun k => k < w.heap.size) (r2 := w.heap.size + 1) (s := g.1) hOM.out hch.out HRK.out (rGr_open Hg.out).1 (fun k hk => ⟨by omega, by omega⟩) (by omega) (by omega) (fun k h1 h2 => ?_) (by simp) hol' hrl hwf
            rw [Below.heap_setCell _ _ _ _ h1, Below.heap_setCell _ _ _ _ h1, Below.heap_setCell _ _ _ _ h1]
          · have hz9 := H0.out.trans (HBq.out.mono (by omega))
            exact ((hz9.setCell (p := ⟨w.heap.size + 1, 0, none⟩) (by simp) (.slice A N c)).setCell (p := ⟨w.heap.size + 1, 1, none⟩) (by simp) (.slice Av M cv)).setCell (p := ⟨w.heap.size + 1, 2, none⟩) (by simp) (.slice A2 K c2)
end Go.Proofs.Yteafbdebmhpffaa
