/- The texts GrSet, GrRef8, ForkL, VlRefZero, GrRef9, GrLawTells in one; what each proves, and its conditions, stands before it. -/
import Derived.Test.YtembafogbfcajaaVlRefFitsAll
import Derived.Test.YtembafogbfcajaaSched
import Derived.Test.YtembafogbfcajaaRets
import Derived.Test.YtembafogbfcajaaGrRowSetAll
import Derived.Test.YtembafogbfcajaaSchedL
import Derived.Test.YtembafogbfcajaaVlFitsAll
import Derived.Test.YtembafogbfcajaaGrNew
import Derived.Deep.DeepCutAuto
import Derived.Test.YtembafogbfcajaaGrAwake
import Derived.Test.YtembafogbfcajaaGrRef3
import Derived.Test.YtembafogbfcajaaGrRef7All
import Derived.BigQuiet
/- The contract of graph's Set. Condition: sizes that memory can hold. -/
namespace Go.Proofs.Ytembafogbfcajaa
open Go.RowKit

theorem have_len {g : Gr} {f : Fld} {v : Vl} (h : haveG g f v = true) : v.2.1.length ≤ 12 := by
  rw [haveG, Bool.and_eq_true] at h
  have hf := h.1
  generalize f.2.1 = kd at hf
  rcases vl_kinds kd with rfl | rfl | rfl | rfl | rfl | rfl | hk'
  · rw [vl_fits_0] at hf; rw [(of_decide_eq_true hf).2.2.1]; simp
  · rw [vl_fits_1] at hf; rw [(of_decide_eq_true hf).2.2.1]; simp
  · rw [vl_fits_2] at hf; rw [(of_decide_eq_true hf).2.2.1]; simp
  · rw [vl_fits_3] at hf; rw [(of_decide_eq_true hf).1]; simp
  · rw [vl_fits_4] at hf; exact (of_decide_eq_true hf).1
  · rw [vl_fits_5] at hf; rw [(of_decide_eq_true hf).2.2.2]; simp
  · rw [vl_fits_x hk'] at hf; cases hf
theorem grown_set3 {w : World} {b p q r : Nat} {x y z : Value} : w.grownBy (((w.setCell ⟨b, p, none⟩ x).setCell ⟨b, q, none⟩ y).setCell ⟨b, r, none⟩ z) (some b) := by
  have hq := (((Below.refl b w).setCell (p := ⟨b, p, none⟩) (Nat.le_refl _) x).setCell (p := ⟨b, q, none⟩) (Nat.le_refl _) y).setCell (p := ⟨b, r, none⟩) (Nat.le_refl _) z
  refine ⟨hq.os, hq.tape, hq.output, hq.size, fun k _ hne => ?_⟩
  have hne' : k ≠ b := by simpa using hne
  rw [Below.heap_setCell _ _ _ _ hne', Below.heap_setCell _ _ _ _ hne', Below.heap_setCell _ _ _ _ hne']
theorem below_grown'' {w w' : World} (h : Below w.heap.size w w') {row : Option Nat} : w.grownBy w' row := ⟨h.os, h.tape, h.output, h.size, fun b hb _ => h.block b hb⟩

/-- Read, and where. -/
theorem OwnG.readIn {H b1 b2 m : Nat} {w : World} {g : Gr} {A : Option Addr} {K c : Nat} (h : OwnG H w g b1 b2 m (.slice A K c)) (hK : g.2.2.length = K) : rGr (fun b => H ≤ b ∧ b < w.heap.size) w [.slice (some ⟨b1, 0, none⟩) g.1.length g.1.length, .slice (some ⟨b2, 0, none⟩) g.2.1.length g.2.1.length, .slice A K c] g := by
  obtain ⟨ds, h1, h2⟩ := h.obs
  have := h.low; have := h.one; have := h.two; have := h.top
  subst hK
  refine rGr_mk (rSch_stays.to (Keeps.mono fun b hb => ⟨by omega, by omega⟩) h.sch) ?_ (rIds_stays.to (Keeps.mono fun b hb => ⟨by omega, hb.2⟩) (ids_own h.ids rfl h.wf))
  exact blk_slice h1 (h2.chunks.imp fun cs a hq => rOb_stays.to (Keeps.mono fun b hb => ⟨by omega, by omega⟩) hq) ⟨by omega, by omega⟩ h.len

set_option maxRecDepth 100000 in
set_option maxHeartbeats 4000000 in
theorem gset_in (A B C : Option Addr) (N c M d K e : Nat) (g : Gr) (id k : Int) (s : ByteArray) (v : Vl) (w : World) (h : rGr (All w) w [.slice A N c, .slice B M d, .slice C K e] g) (htame : tameG g) (hs : byt s = v.2.1) (hv1 : (Lit.int .i64 v.1).wf = true) (hv2 : (Lit.int .i64 v.2.2).wf = true) :
    Calls Try.prog 14 #[.agg #[.slice A N c, .slice B M d, .slice C K e], .int .i64 id, .int .i64 k, .agg #[.int .i64 v.1, .string s, .int .i64 v.2.2]] w fun e w' => ∃ A1 c1 B1 d1 C1 e1, e = .returned (.tuple #[.agg #[.slice A1 (setN g id k v).1.length c1, .slice B1 (setN g id k v).2.1.length d1, .slice C1 (setN g id k v).2.2.length e1], .int .i64 (setE g id k v)]) ∧
      rGr (fun b => w.heap.size ≤ b ∧ b < w'.heap.size) w' [.slice A1 (setN g id k v).1.length c1, .slice B1 (setN g id k v).2.1.length d1, .slice C1 (setN g id k v).2.2.length e1] (setN g id k v) ∧ Below w.heap.size w w' := by
  obtain ⟨hN, hNc, hcm⟩ := slice_len (rGr_open h).1
  obtain ⟨hM, hMd, hdm⟩ := slice_len (rGr_open h).2.1
  obtain ⟨hK, hKe, hem⟩ := slice_len (rGr_open h).2.2
  have hB0 : Below w.heap.size w (((w.alloc (.cells #[.slice A N c, .slice B M d, .slice C K e] 28)).alloc (.cells #[.int .i64 v.1, .string s, .int .i64 v.2.2] 30)).alloc (.cells #[.slice none 0 0, .slice none 0 0, .slice none 0 0] 28)) := (((Below.refl _ w).alloc (Nat.le_refl _) _).alloc (by simp) _).alloc (by simp; omega) _
  obtain ⟨p1, pv, p2⟩ := blk_three w 28 30 28 [.slice A N c, .slice B M d, .slice C K e] [.int .i64 v.1, .string s, .int .i64 v.2.2] [.slice none 0 0, .slice none 0 0, .slice none 0 0]
  have T1 := Lib.hid (copyGraph_any A B C N c M d K e g _ (gr_below hB0 h) htame)
  have T2 := Lib.hid (fun W (hW : Below w.heap.size w W) => whyNoSet_any A B C N c M d K e g id k s v W (gr_below hW h) hs)
  have T3 := Lib.hid (fun W (hW : Below w.heap.size w W) => gfind_any A B C N c M d K e g id W (gr_below hW h))
  have T4 := Lib.hid (fun W hsz => copyVal_any s v.1 v.2.2 W hsz)
  have HB0 := Lib.hid hB0
  have s0 : w.heap.size + 3 = (((w.alloc (.cells #[.slice A N c, .slice B M d, .slice C K e] 28)).alloc (.cells #[.int .i64 v.1, .string s, .int .i64 v.2.2] 30)).alloc (.cells #[.slice none 0 0, .slice none 0 0, .slice none 0 0] 28)).heap.size := by simp
  clear hB0 h htame
  go_enter Try.func14, Try.ntmps14
  go_wp2_with fail
  refine T1.out.mono ?_
  rintro e w1 ⟨b1, b2, m, A3, c3, rfl, hG, hB1⟩
  have a1 := hG.low
  have a2 := hG.one
  have a3 := hG.two
  have a4 := hG.top
  have hB2 : Below w1.heap.size w1 (w1.alloc (.cells #[.slice (some ⟨b1, 0, none⟩) N N, .slice (some ⟨b2, 0, none⟩) M M, .slice A3 K c3] 28)) := (Below.refl _ w1).alloc (Nat.le_refl _) _
  have hB12 := hB1.trans (hB2.mono hB1.size)
  have H2 := Lib.hid (HB0.out.trans (hB12.mono HB0.out.size))
  have p7 := Blk.new w1 28 [.slice (some ⟨b1, 0, none⟩) N N, .slice (some ⟨b2, 0, none⟩) M M, .slice A3 K c3]
  replace p1 := p1.to hB12
  replace p2 := p2.to hB12
  replace pv := pv.to hB12
  have HB2 := Lib.hid hB2
  rw [← s0] at a1
  have HG := Lib.hid hG
  clear hB1 hB12 HB0 T1 s0 hB2 hG
  have c0 := p1.cell (j := 0) rfl
  have c1 := p1.cell (j := 1) rfl
  have c2 := p1.cell (j := 2) rfl
  have z0 := pv.cell (j := 0) rfl
  have z1 := pv.cell (j := 1) rfl
  have z2 := pv.cell (j := 2) rfl
  go_wp2_with fail
  refine (T2.out _ H2.out).mono ?_
  rintro e w3 ⟨rfl, hB3⟩
  have hB13 := Lib.hid (HB2.out.trans (hB3.mono HB2.out.size))
  have H3 := Lib.hid (H2.out.trans (hB3.mono H2.out.size))
  replace p1 := p1.to hB3
  replace p2 := p2.to hB3
  replace pv := pv.to hB3
  replace p7 := p7.to hB3
  clear hB3 HB2 H2 T2 c0 c1 c2 z0 z1 z2
  have x0 := p7.cell (j := 0) rfl
  have x1 := p7.cell (j := 1) rfl
  have x2 := p7.cell (j := 2) rfl
  by_cases he : setE g id k v = 0
  · obtain ⟨hm, hf, hk0, hkl, hhv⟩ := setE_0 he
    have hsz : s.size ≤ 281474976710656 := by
      have := have_len hhv
      rw [← byt_length, hs]; omega
    obtain ⟨I, o, hI, hgi, -, -⟩ := findG_at hf
    have hoe := objG_at hI hgi
    rw [hoe] at hkl
    obtain ⟨kn, hkn⟩ : ∃ kn : Nat, k = (kn : Int) := ⟨k.toNat, by omega⟩
    have Hn : Hid (setN g id k v = (g.1, g.2.1.set I (o.1, o.2.1, o.2.2.set kn v), g.2.2)) := Lib.hid (by rw [setN, if_pos he, hI, hoe, hkn, Int.toNat_natCast, Int.toNat_natCast])
    have He := Lib.hid he
    have hIM : I < M := by have := (List.getElem?_eq_some_iff.1 hgi).1; omega
    obtain ⟨ds, hds, bs, hdse, hbl, hpw, hall⟩ := HG.out.obs
    obtain ⟨bI, hbI⟩ : ∃ bI, bs[I]? = some bI := ⟨_, List.getElem?_eq_getElem (by omega)⟩
    obtain ⟨q1, q2, hw1, hw2, hl9, vs, hvs, hch⟩ := hall I o bI hgi hbI
    have hvl : vs.length = o.2.2.length * 3 := hch.1
    have hx0 := hds.cell (j := I * 3 + 2) (by rw [hdse]; exact obCells_at hgi hbI)
    rw [hI] at T3
    rw [he]
    have hknl : kn < o.2.2.length := by omega
    have Hvs := Lib.hid hvs
    have Hset := Lib.hid (fun (W : World) hW hkeep => ObIn.set (w := w1) (W := W) (v := v) (x := .int .i64 v.1) (y := .string s) (z := .int .i64 v.2.2) hbl hpw hall hgi hbI hknl hvs hch (fun S W' => rVal_mk hs (Nat.le_trans hsz (by simp [maxLen])) hv1 hv2) hW hkeep)
    have Hgl := Lib.hid (HG.out.len)
    subst hkn
    clear he hm hf hhv hoe hch hall hgi hvs
    have hw13 : w1.heap.size < w3.heap.size := p7.lt
    have hx3 := (hB13.out.cell (p := ⟨b2, I * 3 + 2, none⟩) (by show b2 < _; omega)).trans hx0
    have hvs3 := Hvs.out.to hB13.out
    have hw3 : w.heap.size ≤ w3.heap.size := H3.out.size
    generalize hvl0 : o.2.2.length = vl at *
    have T5 := Lib.hid (fun W => T4.out W hsz)
    clear T4
    generalize hn1 : v.1 = n1 at *
    generalize hn2 : v.2.2 = n2 at *
    have S0 := And.intro (p7.cell (j := 1) rfl) (And.intro (p1.cell (j := 0) rfl) (And.intro (p1.cell (j := 1) rfl) (And.intro (p1.cell (j := 2) rfl) (And.intro (pv.cell (j := 0) rfl) (And.intro (pv.cell (j := 1) rfl) (And.intro (pv.cell (j := 2) rfl) (hx3)))))))
    have HS := Lib.hid (fun (W : World) (hW : w3.grownBy W (some bI)) => And.intro (hW.cell S0.1 (by simp; omega)) (And.intro (hW.cell S0.2.1 (by simp; omega)) (And.intro (hW.cell S0.2.2.1 (by simp; omega)) (And.intro (hW.cell S0.2.2.2.1 (by simp; omega)) (And.intro (hW.cell S0.2.2.2.2.1 (by simp; omega)) (And.intro (hW.cell S0.2.2.2.2.2.1 (by simp; omega)) (And.intro (hW.cell S0.2.2.2.2.2.2.1 (by simp; omega)) (hW.cell S0.2.2.2.2.2.2.2 (by simp; omega)))))))))
    have hil : (I : Int) < (M : Int) := by omega
    have hi0 : (0 : Int) ≤ (I : Int) := by omega
    have hkl2 : (kn : Int) < (vl : Int) := by omega
    have hk2 : (0 : Int) ≤ (kn : Int) := by omega
    have Hn1 := Lib.hid hn1
    have Hn2 := Lib.hid hn2
    clear hx0 hx3 x0 x1 x2 hn1 hn2
    go_wp2
    refine sch_start [(0, true), (1, true), (2, true), (3, true), (8, true), (9, true), (4, false), (5, true), (6, true), (7, true), (10, false), (11, true), (12, false)]
      (fun W => W.cell? ⟨w1.heap.size, 1, none⟩ = some (.slice (some ⟨b2, 0, none⟩) M M) ∧ W.cell? ⟨w.heap.size, 0, none⟩ = some (.slice A N c) ∧ W.cell? ⟨w.heap.size, 1, none⟩ = some (.slice B M d) ∧ W.cell? ⟨w.heap.size, 2, none⟩ = some (.slice C K e) ∧ W.cell? ⟨w.heap.size + 1, 0, none⟩ = some (.int .i64 n1) ∧ W.cell? ⟨w.heap.size + 1, 1, none⟩ = some (.string s) ∧ W.cell? ⟨w.heap.size + 1, 2, none⟩ = some (.int .i64 n2) ∧ W.cell? ⟨b2, I * 3 + 2, none⟩ = some (.slice (some ⟨bI, 0, none⟩) vl vl)) (by kernel_rfl) rfl (by kernel_rfl) (fun _ _ _ _ _ h => h) S0 (fun hH => ?_)
    repeat (first | (refine sch_yes (v := ?_) rfl rfl ?_ hH ?_; rotate_left; (focus ((rintro W ⟨hW0, hW1, hW2, hW3, hW4, hW5, hW6, hW7⟩; go_simp) <;> with_reducible rfl)); simp only [Act.put, List.setIfInBounds_toArray, List.set_cons_zero, List.set_cons_succ]) | (refine sch_no rfl rfl hH ?_; simp only [Act.put, List.setIfInBounds_toArray, List.set_cons_zero, List.set_cons_succ]))
    refine sch_call rfl rfl (fun K' hK' => ?_)
    go_wp2_with (go_at_call 27; refine (T3.out _ H3.out.drew).mono ?_; rintro e w4 ⟨rfl, hB4⟩)
    have hC4 : Below w3.heap.size w3 w4 := (Below.refl w3.heap.size w3).drew.trans hB4
    refine hK'.out _ _ (HS.out _ (below_grown'' hC4)) ?_
    clear hK' hH
    have hH := HS.out _ (below_grown'' hC4)
    repeat (first | (refine sch_yes (v := ?_) rfl rfl ?_ hH ?_; rotate_left; (focus ((rintro W ⟨hW0, hW1, hW2, hW3, hW4, hW5, hW6, hW7⟩; go_simp) <;> with_reducible rfl)); simp only [Act.put, List.setIfInBounds_toArray, List.set_cons_zero, List.set_cons_succ]) | (refine sch_no rfl rfl hH ?_; simp only [Act.put, List.setIfInBounds_toArray, List.set_cons_zero, List.set_cons_succ]))
    refine sch_call rfl rfl (fun K' hK' => ?_)
    go_wp2_with (go_at_call 39; refine (T5.out _).mono ?_; rintro e w5 ⟨rfl, hB5⟩)
    have hC5 : Below w3.heap.size w3 w5 := hC4.trans (hB5.mono hC4.size)
    refine hK'.out _ _ (HS.out _ (below_grown'' hC5)) ?_
    clear hK' hH
    have hH := HS.out _ (below_grown'' hC5)
    repeat (first | (refine sch_yes (v := ?_) rfl rfl ?_ hH ?_; rotate_left; (focus ((rintro W ⟨hW0, hW1, hW2, hW3, hW4, hW5, hW6, hW7⟩; go_simp) <;> with_reducible rfl)); simp only [Act.put, List.setIfInBounds_toArray, List.set_cons_zero, List.set_cons_succ]) | (refine sch_no rfl rfl hH ?_; simp only [Act.put, List.setIfInBounds_toArray, List.set_cons_zero, List.set_cons_succ]))
    refine sch_call rfl rfl (fun K' hK' => ?_)
    have hv5 := hvs3.to hC5
    have f0 := hv5.frozen (kn * 3)
    have f1 := hv5.frozen (kn * 3 + 1)
    have f2 := hv5.frozen (kn * 3 + 2)
    have e0 := hv5.cell (j := kn * 3) (List.getElem?_eq_getElem (by omega))
    have e1 := hv5.cell (j := kn * 3 + 1) (List.getElem?_eq_getElem (by omega))
    have e2 := hv5.cell (j := kn * 3 + 2) (List.getElem?_eq_getElem (by omega))
    go_wp2
    have hg6 := (below_grown'' hC5 (row := some bI)).trans (grown_set3 (w := w5) (b := bI) (p := kn * 3) (q := kn * 3 + 1) (r := kn * 3 + 2) (x := .int .i64 n1) (y := .string s) (z := .int .i64 n2))
    have P6 := ((hv5.set (kn * 3) (.int .i64 n1)).set (kn * 3 + 1) (.string s)).set (kn * 3 + 2) (.int .i64 n2)
    refine hK'.out _ _ (HS.out _ hg6) ?_
    clear hK' hH
    refine sch_done ?_
    clear f0 f1 f2 e0 e1 e2 hv5
    generalize ((w5.setCell ⟨bI, kn * 3, none⟩ (.int .i64 n1)).setCell ⟨bI, kn * 3 + 1, none⟩ (.string s)).setCell ⟨bI, kn * 3 + 2, none⟩ (.int .i64 n2) = w6 at *
    have r7 : Blk w6 w1.heap.size 28 [.slice (some ⟨b1, 0, none⟩) N N, .slice (some ⟨b2, 0, none⟩) M M, .slice A3 K c3] := (hg6.block _ p7.lt (by simp; omega)).trans p7
    have r2 : Blk w6 (w.heap.size + 2) 28 [.slice none 0 0, .slice none 0 0, .slice none 0 0] := (hg6.block _ p2.lt (by simp; omega)).trans p2
    have xx0 := r7.cell (j := 0) rfl
    have xx1 := r7.cell (j := 1) rfl
    have xx2 := r7.cell (j := 2) rfl
    have y0 := r2.cell (j := 0) rfl
    have y1 := r2.cell (j := 1) rfl
    have y2 := r2.cell (j := 2) rfl
    have g0 := r2.frozen 0
    have g1 := r2.frozen 1
    have g2 := r2.frozen 2
    go_wp2
    have P9 := ((r2.set 0 (.slice (some ⟨b1, 0, none⟩) N N)).set 1 (.slice (some ⟨b2, 0, none⟩) M M)).set 2 (.slice A3 K c3)
    refine ret_cell1 (d := .struct _) (cs := [.slice (some ⟨b1, 0, none⟩) N N, .slice (some ⟨b2, 0, none⟩) M M, .slice A3 K c3]) rfl P9 rfl rfl rfl rfl rfl ?_
    have hkeep : ∀ b, b ≠ w.heap.size + 2 → (((w6.setCell ⟨w.heap.size + 2, 0, none⟩ (.slice (some ⟨b1, 0, none⟩) N N)).setCell ⟨w.heap.size + 2, 1, none⟩ (.slice (some ⟨b2, 0, none⟩) M M)).setCell ⟨w.heap.size + 2, 2, none⟩ (.slice A3 K c3)).heap[b]? = w6.heap[b]? := fun b n => by
      rw [Below.heap_setCell _ _ _ _ n, Below.heap_setCell _ _ _ _ n, Below.heap_setCell _ _ _ _ n]
    have hkp : ∀ b, b1 ≤ b → b < w1.heap.size → b ≠ bI → (((w6.setCell ⟨w.heap.size + 2, 0, none⟩ (.slice (some ⟨b1, 0, none⟩) N N)).setCell ⟨w.heap.size + 2, 1, none⟩ (.slice (some ⟨b2, 0, none⟩) M M)).setCell ⟨w.heap.size + 2, 2, none⟩ (.slice A3 K c3)).heap[b]? = w1.heap[b]? := fun b n1 n2 n3 => by
      rw [hkeep b (by omega), hg6.block b (by omega) (by simpa using n3), hB13.out.block b n2]
    have hs6 := hg6.size
    have hGn : OwnG b1 (((w6.setCell ⟨w.heap.size + 2, 0, none⟩ (.slice (some ⟨b1, 0, none⟩) N N)).setCell ⟨w.heap.size + 2, 1, none⟩ (.slice (some ⟨b2, 0, none⟩) M M)).setCell ⟨w.heap.size + 2, 2, none⟩ (.slice A3 K c3)) (g.1, g.2.1.set I (o.1, o.2.1, o.2.2.set kn v), g.2.2) b1 b2 m (.slice A3 K c3) :=
      ⟨Nat.le_refl _, a2, a3, by simp; omega, rSch_stays.to (fun b hb => ⟨hb, hkp b hb.1 (by omega) (by omega)⟩) HG.out.sch, ⟨ds, (hkp b2 (by omega) (by omega) (by omega)).trans hds, by rw [hdse]; exact Hset.out _ ((hkeep bI (by omega)).trans P6) (fun c n1 n2 n3 => hkp c (by omega) (by omega) n3)⟩, by simpa using Hgl.out, own_keep HG.out.ids (fun b n1 n2 => hkp b (by omega) n2 (by omega)), HG.out.wf⟩
    have hrd := (hGn.lower (H' := w.heap.size) (by omega)).readIn hK
    rw [Hn.out, He.out]
    simp only [List.length_set] at hrd ⊢
    rw [hN, hM, hK]
    rw [hN, hM] at hrd
    have hq6 := H3.out.grown hg6 H3.out.size (fun k hk => by cases hk; omega)
    exact ⟨some ⟨b1, 0, none⟩, N, some ⟨b2, 0, none⟩, M, A3, c3, rfl, hrd, ((hq6.setCell (p := ⟨w.heap.size + 2, 0, none⟩) (by simp) _).setCell (p := ⟨w.heap.size + 2, 1, none⟩) (by simp) _).setCell (p := ⟨w.heap.size + 2, 2, none⟩) (by simp) _⟩
  · have he' : (setE g id k v != 0) = true := by simp [he]
    have Hn : Hid (setN g id k v = g) := Lib.hid (if_neg he)
    clear he
    have y0 := p2.cell (j := 0) rfl
    have y1 := p2.cell (j := 1) rfl
    have y2 := p2.cell (j := 2) rfl
    have g0 := p2.frozen 0
    have g1 := p2.frozen 1
    have g2 := p2.frozen 2
    generalize hne : setE g id k v = er at *
    have Hne := Lib.hid hne
    clear hne
    go_wp2
    have P9 := ((p2.set 0 (.slice (some ⟨b1, 0, none⟩) N N)).set 1 (.slice (some ⟨b2, 0, none⟩) M M)).set 2 (.slice A3 K c3)
    refine ret_cell1 (d := .struct _) (cs := [.slice (some ⟨b1, 0, none⟩) N N, .slice (some ⟨b2, 0, none⟩) M M, .slice A3 K c3]) rfl P9 rfl rfl rfl rfl rfl ?_
    have hG9 := (HG.out.below hB13.out).keep (w' := ((w3.setCell ⟨w.heap.size + 2, 0, none⟩ (.slice (some ⟨b1, 0, none⟩) N N)).setCell ⟨w.heap.size + 2, 1, none⟩ (.slice (some ⟨b2, 0, none⟩) M M)).setCell ⟨w.heap.size + 2, 2, none⟩ (.slice A3 K c3)) (by simp) fun b hb _ => by
      rw [Below.heap_setCell _ _ _ _ (by show b ≠ w.heap.size + 2; simp at hb; omega), Below.heap_setCell _ _ _ _ (by show b ≠ w.heap.size + 2; simp at hb; omega), Below.heap_setCell _ _ _ _ (by show b ≠ w.heap.size + 2; simp at hb; omega)]
    have hrd := (hG9.lower (H' := w.heap.size) (by simp; omega)).readIn hK
    rw [Hn.out, hN, hM, hK, Hne.out]
    rw [hN, hM] at hrd
    exact ⟨some ⟨b1, 0, none⟩, N, some ⟨b2, 0, none⟩, M, A3, c3, rfl, hrd, ((H3.out.setCell (p := ⟨w.heap.size + 2, 0, none⟩) (by simp) _).setCell (p := ⟨w.heap.size + 2, 1, none⟩) (by simp) _).setCell (p := ⟨w.heap.size + 2, 2, none⟩) (by simp) _⟩
theorem gset_any (A B C : Option Addr) (N c M d K e : Nat) (g : Gr) (id k : Int) (s : ByteArray) (v : Vl) (w : World) (h : rGr (All w) w [.slice A N c, .slice B M d, .slice C K e] g) (htame : tameG g) (hs : byt s = v.2.1) (hv1 : (Lit.int .i64 v.1).wf = true) (hv2 : (Lit.int .i64 v.2.2).wf = true) :
    Calls Try.prog 14 #[.agg #[.slice A N c, .slice B M d, .slice C K e], .int .i64 id, .int .i64 k, .agg #[.int .i64 v.1, .string s, .int .i64 v.2.2]] w fun e w' => ∃ A1 c1 B1 d1 C1 e1, e = .returned (.tuple #[.agg #[.slice A1 (setN g id k v).1.length c1, .slice B1 (setN g id k v).2.1.length d1, .slice C1 (setN g id k v).2.2.length e1], .int .i64 (setE g id k v)]) ∧
      rGr (All w') w' [.slice A1 (setN g id k v).1.length c1, .slice B1 (setN g id k v).2.1.length d1, .slice C1 (setN g id k v).2.2.length e1] (setN g id k v) ∧ Below w.heap.size w w' := by
  refine (gset_in A B C N c M d K e g id k s v w h htame hs hv1 hv2).mono ?_
  rintro e w' ⟨A1, c1, B1, d1, C1, e1, he, hr, hB⟩
  exact ⟨A1, c1, B1, d1, C1, e1, he, rGr_stays.to (Keeps.mono fun b hb => hb.2) hr, hB⟩
end Go.Proofs.Ytembafogbfcajaa

/- The contract of the document's own Set (layer 8): just what the plain function tells. Nothing that was there is changed. Condition: names of at most 1048576 bytes. -/
namespace Go.Proofs.Ytembafogbfcajaa
open Go.RowKit

theorem keep_1 {w : World} {b p : Nat} {u : Value} {k : Nat} (h : k ≠ b) : (w.setCell ⟨b, p, none⟩ u).heap[k]? = w.heap[k]? := Below.heap_setCell _ _ _ _ h

set_option maxRecDepth 100000 in
set_option maxHeartbeats 4000000 in
theorem rset_any (A B C : Option Addr) (N c M d K e : Nat) (g : Gr) (id k : Int) (s : ByteArray) (v : Vl) (w : World) (h : rGr (All w) w [.slice A N c, .slice B M d, .slice C K e] g) (htame : tameS g.1) (hs : byt s = v.2.1) (hv1 : (Lit.int .i64 v.1).wf = true) (hv2 : (Lit.int .i64 v.2.2).wf = true) :
    Calls Try.prog 15 #[.agg #[.slice A N c, .slice B M d, .slice C K e], .int .i64 id, .int .i64 k, .agg #[.int .i64 v.1, .string s, .int .i64 v.2.2]] w fun e w' => ∃ A1 c1 B1 d1 C1 e1, e = .returned (.tuple #[.agg #[.slice A1 (setN g id k v).1.length c1, .slice B1 (setN g id k v).2.1.length d1, .slice C1 (setN g id k v).2.2.length e1], .int .i64 (setE g id k v)]) ∧
      rGr (All w') w' [.slice A1 (setN g id k v).1.length c1, .slice B1 (setN g id k v).2.1.length d1, .slice C1 (setN g id k v).2.2.length e1] (setN g id k v) ∧ Below w.heap.size w w' := by
  obtain ⟨i0, hi, hz0, hz1, hz2⟩ := info_parts info_obj
  obtain ⟨i1, hi1, hz01, hz11, hz21⟩ := info_parts info_vals
  obtain ⟨hN, -, -⟩ := slice_len (rGr_open h).1
  obtain ⟨hM, -, -⟩ := slice_len (rGr_open h).2.1
  obtain ⟨hK, -, -⟩ := slice_len (rGr_open h).2.2
  have hB0 : Below w.heap.size w (((w.alloc (.cells #[.slice A N c, .slice B M d, .slice C K e] 28)).alloc (.cells #[.int .i64 v.1, .string s, .int .i64 v.2.2] 30)).alloc (.cells #[.slice none 0 0, .slice none 0 0, .slice none 0 0] 28)) := (((Below.refl _ w).alloc (Nat.le_refl _) _).alloc (by simp) _).alloc (by simp; omega) _
  obtain ⟨p1, pv, p2⟩ := blk_three w 28 30 28 [.slice A N c, .slice B M d, .slice C K e] [.int .i64 v.1, .string s, .int .i64 v.2.2] [.slice none 0 0, .slice none 0 0, .slice none 0 0]
  have TM := Lib.hid (rgmay_any A B C N c M d K e g _ (gr_below hB0 h) htame)
  have TG := Lib.hid (fun W (hW : Below w.heap.size w W) => rgfind_any A B C N c M d K e g id W (gr_below hW h))
  have TL := Lib.hid (fun W (hW : Below w.heap.size w W) x y f hy => rleads_any A B C N c M d K e g x y s f v W (gr_below hW h) hy hs)
  have HB0 := Lib.hid hB0
  have s0 : w.heap.size + 3 = (((w.alloc (.cells #[.slice A N c, .slice B M d, .slice C K e] 28)).alloc (.cells #[.int .i64 v.1, .string s, .int .i64 v.2.2] 30)).alloc (.cells #[.slice none 0 0, .slice none 0 0, .slice none 0 0] 28)).heap.size := by simp
  have Hh := Lib.hid h
  have HN := Lib.hid hN
  have HM := Lib.hid hM
  have HK := Lib.hid hK
  have Hsl : Hid (haveG g = haveG g) := Lib.hid rfl
  clear hB0 htame h hN hM hK Hsl
  have Hlen : Hid (∀ f, haveG g f v = true → s.size ≤ maxLen) := Lib.hid fun f hf => by
    have := have_len hf
    rw [← hs, byt_length] at this
    simp only [maxLen]; omega
  have Hrv : Hid (s.size ≤ maxLen → ∀ S W, rVal S W [.int .i64 v.1, .string s, .int .i64 v.2.2] v) := Lib.hid fun h1 S W => rVal_mk hs h1 hv1 hv2
  clear hs hv1 hv2
  by_cases hm : mayG g = true
  case neg =>
    replace hm : mayG g = false := by simpa using hm
    have Hr : Hid (setE g id k v = 1) := Lib.hid (by rw [setE, if_neg (by rw [hm]; decide)])
    rw [hm] at TM
    clear hm
    generalize v.1 = n1 at *
    generalize v.2.2 = n2 at *
    go_enter Try.func15, Try.ntmps15
    go_wp2_with fail
    refine TM.out.mono ?_
    rintro e w1 ⟨rfl, hB1⟩
    have H1 := Lib.hid (HB0.out.trans (hB1.mono HB0.out.size))
    replace p1 := p1.to hB1
    replace p2 := p2.to hB1
    clear hB1 HB0 TM
    have x0 := p1.cell (j := 0) rfl
    have x1 := p1.cell (j := 1) rfl
    have x2 := p1.cell (j := 2) rfl
    have y0 := p2.cell (j := 0) rfl
    have y1 := p2.cell (j := 1) rfl
    have y2 := p2.cell (j := 2) rfl
    have g0 := p2.frozen 0
    have g1 := p2.frozen 1
    have g2 := p2.frozen 2
    go_wp2
    have P9 := ((p2.set 0 (.slice A N c)).set 1 (.slice B M d)).set 2 (.slice C K e)
    refine ret_cell1 (d := .struct _) (cs := [.slice A N c, .slice B M d, .slice C K e]) rfl P9 rfl rfl rfl rfl rfl ?_
    have hBz := ((H1.out.setCell (p := ⟨w.heap.size + 2, 0, none⟩) (by simp) (.slice A N c)).setCell (p := ⟨w.heap.size + 2, 1, none⟩) (by simp) (.slice B M d)).setCell (p := ⟨w.heap.size + 2, 2, none⟩) (by simp) (.slice C K e)
    have hnn : setN g id k v = g := if_neg (by rw [Hr.out]; decide)
    rw [hnn, Hr.out, HN.out, HM.out, HK.out]
    exact ⟨A, c, B, d, C, e, rfl, gr_below hBz Hh.out, hBz⟩
  rw [hm] at TM
  have Hm := Lib.hid hm
  have hM8 : M ≤ 8 := by have := (mayG_parts hm).2.1; have := HM.out; omega
  by_cases hf : findG g.2.1 id = -1
  case pos =>
    have Hr : Hid (setE g id k v = 11) := Lib.hid (by rw [setE, if_pos hm, if_neg (fun hh => hh.1 hf)])
    rw [hf] at TG
    clear hm hf
    generalize v.1 = n1 at *
    generalize v.2.2 = n2 at *
    go_enter Try.func15, Try.ntmps15
    go_wp2_with fail
    refine TM.out.mono ?_
    rintro e w1 ⟨rfl, hB1⟩
    have H1 := Lib.hid (HB0.out.trans (hB1.mono HB0.out.size))
    replace p1 := p1.to hB1
    replace p2 := p2.to hB1
    clear hB1 HB0 TM
    have x0 := p1.cell (j := 0) rfl
    have x1 := p1.cell (j := 1) rfl
    have x2 := p1.cell (j := 2) rfl
    go_wp2_with fail
    refine (TG.out _ H1.out).mono ?_
    rintro e w2 ⟨rfl, hB2⟩
    have H2 := Lib.hid (H1.out.trans (hB2.mono H1.out.size))
    replace p1 := p1.to hB2
    replace p2 := p2.to hB2
    clear hB2 H1 TG x0 x1 x2
    have x0 := p1.cell (j := 0) rfl
    have x1 := p1.cell (j := 1) rfl
    have x2 := p1.cell (j := 2) rfl
    have y0 := p2.cell (j := 0) rfl
    have y1 := p2.cell (j := 1) rfl
    have y2 := p2.cell (j := 2) rfl
    have g0 := p2.frozen 0
    have g1 := p2.frozen 1
    have g2 := p2.frozen 2
    go_wp2
    have P9 := ((p2.set 0 (.slice A N c)).set 1 (.slice B M d)).set 2 (.slice C K e)
    refine ret_cell1 (d := .struct _) (cs := [.slice A N c, .slice B M d, .slice C K e]) rfl P9 rfl rfl rfl rfl rfl ?_
    have hBz := ((H2.out.setCell (p := ⟨w.heap.size + 2, 0, none⟩) (by simp) (.slice A N c)).setCell (p := ⟨w.heap.size + 2, 1, none⟩) (by simp) (.slice B M d)).setCell (p := ⟨w.heap.size + 2, 2, none⟩) (by simp) (.slice C K e)
    have hnn : setN g id k v = g := if_neg (by rw [Hr.out]; decide)
    rw [hnn, Hr.out, HN.out, HM.out, HK.out]
    exact ⟨A, c, B, d, C, e, rfl, gr_below hBz Hh.out, hBz⟩
  obtain ⟨I, o, hI, ho, -, -⟩ := findG_at hf
  have hoe := objG_at hI ho
  have hIM : I < M := by have := HM.out; have := (List.getElem?_eq_some_iff.1 ho).1; omega
  have mo := mayG_obj hm (List.mem_of_getElem? ho)
  have HE : Hid (setE g id k v = if (decide (0 ≤ k) && decide (k < (o.2.2.length : Int))) = true then if haveG g ((fldsG g.1 o.2.1).getD k.toNat ([], 0, [])) v = true then 0 else 6 else 11) := Lib.hid (by
    rw [setE, if_pos hm, hoe]
    by_cases hc : (decide (0 ≤ k) && decide (k < (o.2.2.length : Int))) = true
    · rw [if_pos ⟨hf, hc⟩, if_pos hc]
    · rw [if_neg (fun hh => hc hh.2), if_neg hc])
  have HNset : Hid (setE g id k v = 0 → setN g id k v = (g.1, g.2.1.set I (o.1, o.2.1, o.2.2.set k.toNat v), g.2.2)) := Lib.hid fun h0 => by rw [setN, if_pos h0, hI, hoe, Int.toNat_natCast]
  rw [hI] at TG
  obtain ⟨t, ht⟩ : ∃ t : Nat, o.2.1 = (t : Int) := ⟨o.2.1.toNat, by have := mo.t0; omega⟩
  obtain ⟨ty, hty⟩ : ∃ ty, g.1[t]? = some ty := ⟨_, List.getElem?_eq_getElem (by have := mo.t1; omega)⟩
  have htN : t < N := by have := HN.out; have := mo.t1; omega
  have hfe := fldsG_at ht hty
  have hlen := mo.len
  rw [hfe] at hlen HE
  obtain ⟨b, off, A2, cv, hBe, hb, -, x1, x2, hvs, -, -⟩ := ob_at (rGr_open Hh.out).2.1 ho
  obtain ⟨bt, offt, st, AF, cF, hAe, hbt, -, y1, -, -, hfs⟩ := typ_at (rGr_open Hh.out).1 hty
  subst hBe hAe
  rw [ht] at x1
  have hvn : o.2.2.length ≤ 9223372036854775807 := by have := (slice_len hvs).2; simp only [maxLen] at this; omega
  obtain ⟨xs, hxr, hxl, hxc⟩ := slice_cells (rGr_open Hh.out).2.1
  obtain ⟨ys, hyr, hyl, hyc⟩ := slice_cells hvs
  have hv10 : o.2.2.length ≤ 5 := by
    obtain ⟨-, m7⟩ := (mayS_iff g.1).1 (mayG_parts hm).1
    obtain ⟨-, -, m6, -⟩ := (mayT_iff g.1 t ty).1 (m7 t ty hty)
    omega
  have Ho := Lib.hid ho
  have Hx := Lib.hid hxr
  have Hy := Lib.hid hyr
  have Hxc := Lib.hid hxc
  have Hyc := Lib.hid hyc
  have Hx1 := Lib.hid (chunks_all1 ob_one hxc)
  have Hy1 := Lib.hid (chunks_all1 val_one hyc)
  have Hfs := Lib.hid hfs
  have Hlo := Lib.hid hlen
  clear hm hf hoe mo ho ht hty hfe hvs hfs hlen hxr hyr hxc hyc hI
  generalize hvl : o.2.2.length = vl at *
  generalize hfl : ty.2.length = fl at *
  have Hvl := Lib.hid hvl
  have Hfl := Lib.hid hfl
  clear hvl hfl
  have q1 : decide ((I : Int) < 0) = false := decide_eq_false (by omega)
  have q2 : (I : Int) < (M : Int) := by omega
  have q3 : (0 : Int) ≤ (I : Int) := Int.natCast_nonneg I
  have q4 : (t : Int) < (N : Int) := by omega
  have q5 : (0 : Int) ≤ (t : Int) := Int.natCast_nonneg t
  generalize hn1 : v.1 = n1 at *
  generalize hn2 : v.2.2 = n2 at *
  go_enter Try.func15, Try.ntmps15
  go_wp2_with fail
  refine TM.out.mono ?_
  rintro e w1 ⟨rfl, hB1⟩
  have H1 := Lib.hid (HB0.out.trans (hB1.mono HB0.out.size))
  have l1 : w.heap.size + 3 ≤ w1.heap.size := by rw [s0]; exact hB1.size
  replace p1 := p1.to hB1
  replace p2 := p2.to hB1
  replace pv := pv.to hB1
  clear hB1 HB0 s0 TM
  have x0a := p1.cell (j := 0) rfl
  have x1a := p1.cell (j := 1) rfl
  have x2a := p1.cell (j := 2) rfl
  go_wp2_with fail
  refine (TG.out _ H1.out).mono ?_
  rintro e w2 ⟨rfl, hB2⟩
  have H2 := Lib.hid (H1.out.trans (hB2.mono H1.out.size))
  have l2 : w.heap.size + 3 ≤ w2.heap.size := Nat.le_trans l1 hB2.size
  replace p1 := p1.to hB2
  replace p2 := p2.to hB2
  replace pv := pv.to hB2
  clear hB2 H1 TG x0a x1a x2a l1
  by_cases c1 : k < 0
  · have k1 : decide (k < 0) = true := decide_eq_true c1
    have Hr : Hid (setE g id k v = 11) := Lib.hid (by rw [HE.out, if_neg (by rw [decide_eq_false (by omega : ¬ 0 ≤ k)]; simp)])
    clear HE HNset c1
    have x0 := p1.cell (j := 0) rfl
    have x1 := p1.cell (j := 1) rfl
    have x2 := p1.cell (j := 2) rfl
    have y0 := p2.cell (j := 0) rfl
    have y1 := p2.cell (j := 1) rfl
    have y2 := p2.cell (j := 2) rfl
    have g0 := p2.frozen 0
    have g1 := p2.frozen 1
    have g2 := p2.frozen 2
    go_wp2
    have P9 := ((p2.set 0 (.slice (some ⟨bt, offt, none⟩) N c)).set 1 (.slice (some ⟨b, off, none⟩) M d)).set 2 (.slice C K e)
    refine ret_cell1 (d := .struct _) (cs := [.slice (some ⟨bt, offt, none⟩) N c, .slice (some ⟨b, off, none⟩) M d, .slice C K e]) rfl P9 rfl rfl rfl rfl rfl ?_
    have hBz := ((H2.out.setCell (p := ⟨w.heap.size + 2, 0, none⟩) (by simp) (.slice (some ⟨bt, offt, none⟩) N c)).setCell (p := ⟨w.heap.size + 2, 1, none⟩) (by simp) (.slice (some ⟨b, off, none⟩) M d)).setCell (p := ⟨w.heap.size + 2, 2, none⟩) (by simp) (.slice C K e)
    have hnn : setN g id k v = g := if_neg (by rw [Hr.out]; decide)
    rw [hnn, Hr.out, HN.out, HM.out, HK.out]
    exact ⟨some ⟨bt, offt, none⟩, c, some ⟨b, off, none⟩, d, C, e, rfl, gr_below hBz Hh.out, hBz⟩
  have k1 : decide (k < 0) = false := decide_eq_false c1
  obtain ⟨kn, rfl⟩ : ∃ kn : Nat, k = (kn : Int) := ⟨k.toNat, by omega⟩
  have x2b := (H2.out.cell (p := ⟨b, off + I * 3 + 2, none⟩) hb).trans x2
  by_cases c2 : vl ≤ kn
  · have k2 : decide ((vl : Int) ≤ (kn : Int)) = true := decide_eq_true (by omega)
    have k2' : decide (vl ≤ kn) = true := decide_eq_true (by omega)
    have Hr : Hid (setE g id (kn : Int) v = 11) := Lib.hid (by rw [HE.out, if_neg (by rw [decide_eq_false (by omega : ¬ (kn : Int) < (vl : Int))]; simp)])
    clear HE HNset c1 c2
    have x0 := p1.cell (j := 0) rfl
    have x1 := p1.cell (j := 1) rfl
    have x2 := p1.cell (j := 2) rfl
    have y0 := p2.cell (j := 0) rfl
    have y1 := p2.cell (j := 1) rfl
    have y2 := p2.cell (j := 2) rfl
    have g0 := p2.frozen 0
    have g1 := p2.frozen 1
    have g2 := p2.frozen 2
    go_wp2
    have P9 := ((p2.set 0 (.slice (some ⟨bt, offt, none⟩) N c)).set 1 (.slice (some ⟨b, off, none⟩) M d)).set 2 (.slice C K e)
    refine ret_cell1 (d := .struct _) (cs := [.slice (some ⟨bt, offt, none⟩) N c, .slice (some ⟨b, off, none⟩) M d, .slice C K e]) rfl P9 rfl rfl rfl rfl rfl ?_
    have hBz := ((H2.out.setCell (p := ⟨w.heap.size + 2, 0, none⟩) (by simp) (.slice (some ⟨bt, offt, none⟩) N c)).setCell (p := ⟨w.heap.size + 2, 1, none⟩) (by simp) (.slice (some ⟨b, off, none⟩) M d)).setCell (p := ⟨w.heap.size + 2, 2, none⟩) (by simp) (.slice C K e)
    have hnn : setN g id (kn : Int) v = g := if_neg (by rw [Hr.out]; decide)
    rw [hnn, Hr.out, HN.out, HM.out, HK.out]
    exact ⟨some ⟨bt, offt, none⟩, c, some ⟨b, off, none⟩, d, C, e, rfl, gr_below hBz Hh.out, hBz⟩
  have k2 : decide ((vl : Int) ≤ (kn : Int)) = false := decide_eq_false (by omega)
  have k2' : decide (vl ≤ kn) = false := decide_eq_false (by omega)
  have k3 : (kn : Int) < (vl : Int) := by omega
  have k4 : (0 : Int) ≤ (kn : Int) := Int.natCast_nonneg kn
  have k5 : (kn : Int) < (fl : Int) := by have := Hlo.out; omega
  obtain ⟨f, hfk⟩ : ∃ f, ty.2[kn]? = some f := ⟨_, List.getElem?_eq_getElem (by have := Hfl.out; have := Hlo.out; omega)⟩
  have HE2 : Hid (setE g id (kn : Int) v = if haveG g f v = true then 0 else 6) := Lib.hid (by
    rw [HE.out, if_pos (by rw [decide_eq_true k4, decide_eq_true k3]; rfl), Int.toNat_natCast, List.getD_eq_getElem?_getD, hfk, Option.getD_some])
  obtain ⟨bf, offf, sx, tx, hAFe, hbf, z0, z1, z2, -, htx, -, -, -⟩ := fld_at Hfs.out hfk
  subst hAFe
  have T1 := Lib.hid (fun W (hW : Below w.heap.size w W) => TL.out W hW sx tx f htx)
  have Hl2 := Lib.hid (Hlen.out f)
  have HS := Lib.hid (fun (W : World) (hW : Below w2.heap.size w2 W) => And.intro (And.intro ((p1.to hW).cell (j := 0) rfl) (And.intro ((p1.to hW).cell (j := 1) rfl) ((p1.to hW).cell (j := 2) rfl)))
    (And.intro (And.intro ((pv.to hW).cell (j := 0) rfl) (And.intro ((pv.to hW).cell (j := 1) rfl) ((pv.to hW).cell (j := 2) rfl)))
    (And.intro (And.intro (((H2.out.trans (hW.mono H2.out.size)).cell (p := ⟨b, off + I * 3 + 1, none⟩) hb).trans x1) (((H2.out.trans (hW.mono H2.out.size)).cell (p := ⟨bt, offt + t * 2 + 1, none⟩) hbt).trans y1))
    (And.intro (((H2.out.trans (hW.mono H2.out.size)).cell (p := ⟨bf, offf + kn * 3, none⟩) hbf).trans z0) (And.intro (((H2.out.trans (hW.mono H2.out.size)).cell (p := ⟨bf, offf + kn * 3 + 1, none⟩) hbf).trans z1) (((H2.out.trans (hW.mono H2.out.size)).cell (p := ⟨bf, offf + kn * 3 + 2, none⟩) hbf).trans z2))))))
  clear HE hfk z0 z1 z2 htx c1 c2 TL Hlen
  generalize haveG g f v = hh at *
  generalize f.2.1 = kk at *
  have x1c := p1.cell (j := 1) rfl
  go_wp2
  clear x1c
  refine sch_start [(0, true), (1, true), (2, true), (3, true), (4, true), (5, true), (6, true), (7, true), (8, true), (9, true), (10, true), (11, true), (12, true), (13, true), (14, true), (15, true), (16, true), (17, false), (18, true)] (fun W => Below w2.heap.size w2 W) (by kernel_rfl) rfl (by kernel_rfl) (fun _ _ _ _ _ h => h) (Below.refl _ w2).drew (fun hH => ?_)
  repeat (first | (refine sch_yes (v := ?_) rfl rfl ?_ hH ?_; rotate_left; (focus ((intro W hW; obtain ⟨⟨a0, a1, a2⟩, ⟨b0, b1, b2⟩, ⟨c0, c1⟩, d0, d1, d2⟩ := HS.out W hW; go_simp) <;> with_reducible rfl)); simp only [Act.put, List.setIfInBounds_toArray, List.set_cons_zero, List.set_cons_succ]) | (refine sch_no rfl rfl hH ?_; simp only [Act.put, List.setIfInBounds_toArray, List.set_cons_zero, List.set_cons_succ]))
  refine sch_call rfl rfl (fun K' hK' => ?_)
  go_wp2_with (go_at_call 40; refine (T1.out _ (H2.out.trans (hH.mono H2.out.size))).mono ?_; rintro e w3 ⟨rfl, hB3⟩)
  have hD3 := hH.trans (hB3.mono hH.size)
  refine hK'.out _ _ hD3 ?_
  clear hK' hB3 hH
  have hH := hD3
  repeat (first | (refine sch_yes (v := ?_) rfl rfl ?_ hH ?_; rotate_left; (focus ((intro W hW; obtain ⟨⟨a0, a1, a2⟩, ⟨b0, b1, b2⟩, ⟨c0, c1⟩, d0, d1, d2⟩ := HS.out W hW; go_simp) <;> with_reducible rfl)); simp only [Act.put, List.setIfInBounds_toArray, List.set_cons_zero, List.set_cons_succ]) | (refine sch_no rfl rfl hH ?_; simp only [Act.put, List.setIfInBounds_toArray, List.set_cons_zero, List.set_cons_succ]))
  refine sch_done ?_
  have H3 := Lib.hid (H2.out.trans (hD3.mono H2.out.size))
  have l3 : w.heap.size + 3 ≤ w3.heap.size := Nat.le_trans l2 hD3.size
  replace p1 := p1.to hD3
  replace p2 := p2.to hD3
  replace pv := pv.to hD3
  clear hH hD3 HS T1 H2 l2 x2b
  cases hh
  · have Hr : Hid (setE g id (kn : Int) v = 6) := Lib.hid (by rw [HE2.out]; rfl)
    clear HE2 HNset
    have x0 := p1.cell (j := 0) rfl
    have x1 := p1.cell (j := 1) rfl
    have x2 := p1.cell (j := 2) rfl
    have y0 := p2.cell (j := 0) rfl
    have y1 := p2.cell (j := 1) rfl
    have y2 := p2.cell (j := 2) rfl
    have g0 := p2.frozen 0
    have g1 := p2.frozen 1
    have g2 := p2.frozen 2
    go_wp2
    have P9 := ((p2.set 0 (.slice (some ⟨bt, offt, none⟩) N c)).set 1 (.slice (some ⟨b, off, none⟩) M d)).set 2 (.slice C K e)
    refine ret_cell1 (d := .struct _) (cs := [.slice (some ⟨bt, offt, none⟩) N c, .slice (some ⟨b, off, none⟩) M d, .slice C K e]) rfl P9 rfl rfl rfl rfl rfl ?_
    have hBz := ((H3.out.setCell (p := ⟨w.heap.size + 2, 0, none⟩) (by simp) (.slice (some ⟨bt, offt, none⟩) N c)).setCell (p := ⟨w.heap.size + 2, 1, none⟩) (by simp) (.slice (some ⟨b, off, none⟩) M d)).setCell (p := ⟨w.heap.size + 2, 2, none⟩) (by simp) (.slice C K e)
    have hnn : setN g id (kn : Int) v = g := if_neg (by rw [Hr.out]; decide)
    rw [hnn, Hr.out, HN.out, HM.out, HK.out]
    exact ⟨some ⟨bt, offt, none⟩, c, some ⟨b, off, none⟩, d, C, e, rfl, gr_below hBz Hh.out, hBz⟩
  have Hr : Hid (setE g id (kn : Int) v = 0) := Lib.hid (by rw [HE2.out]; rfl)
  have Hn := Lib.hid (HNset.out Hr.out)
  rw [Int.toNat_natCast] at Hn
  have Hrv2 := Lib.hid (Hrv.out (Hl2.out rfl))
  clear HE2 HNset Hrv Hl2
  have hrd3 := Hx.out.below H3.out
  have d1 := p1.cell (j := 1) rfl
  go_wp2_with (first
    | (at_builtin; refine wpList_apps rfl (.const (.slice none 0 0)) (.tmp 61) 25 rfl w3.heap.size 49 i0 (.agg #[.int .i64 0, .int .i64 0, .slice none 0 0]) 3 40 Try.underlying25 hi hz0 hz1 hz2 rfl (by omega) (.slice none 0 0) 0 [] rfl (World.ownsRow_nil _ _ _ _) (some ⟨b, off, none⟩) M d xs rfl hxl hrd3 Hx1.out (by simp only [maxLen]; omega) (by omega) (Nat.le_refl _) ?_; intro v4 w4 hown4 hg4 _
       rw [Nat.zero_add, List.nil_append] at hown4
       obtain ⟨A4, c4, rfl⟩ := own_slice3 hown4
       have hB4 : Below w3.heap.size w3 w4 := (Below.refl _ _).grown hg4 (Nat.le_refl _) (fun k hk => by simp [Value.ownBlock] at hk)
       have r1 := p1.to hB4
       have f1 := r1.frozen 1
       have e1 := r1.cell (j := 1) rfl)
    | fail)
  have u1 := r1.set 1 (.slice A4 M c4)
  have uv := (pv.to hB4).other ⟨w.heap.size, 1, none⟩ (.slice A4 M c4) (by simp)
  have u2 := (p2.to hB4).other ⟨w.heap.size, 1, none⟩ (.slice A4 M c4) (by simp)
  have own5 := own_keep hown4 (w' := w4.setCell ⟨w.heap.size, 1, none⟩ (.slice A4 M c4)) (fun b n1 n2 => keep_1 (by omega))
  have l4 := hB4.size
  have H5 := Lib.hid ((H3.out.trans (hB4.mono H3.out.size)).setCell (p := ⟨w.heap.size, 1, none⟩) (Nat.le_refl _) (.slice A4 M c4))
  have l5 : w3.heap.size ≤ (w4.setCell ⟨w.heap.size, 1, none⟩ (.slice A4 M c4)).heap.size := by simpa using l4
  clear hown4 hg4 hB4 f1 e1 d1 r1 p1 p2 pv H3
  generalize w4.setCell ⟨w.heap.size, 1, none⟩ (.slice A4 M c4) = w5 at *
  obtain ⟨gb, yy, hAe, hgb, hgl, hyx, hyc, hyf, hset⟩ := own_set own5 (p := I * 3 + 2) (by omega)
  subst hAe
  obtain ⟨_, _, _, hx0, hx1, hx2, hRx⟩ := chunks_at3 Hxc.out Ho.out
  have hcell2 : w5.cell? ⟨gb, I * 3 + 2, none⟩ = some (.slice A2 vl cv) := by
    have e1 := Hx.out
    have e2 : w.cell? ⟨b, off + (I * 3 + 2), none⟩ = xs[I * 3 + 2]? := by
      rcases e1 with hnil | ⟨b9, off9, he9, _, hc9⟩
      · rw [hnil] at hx2; simp at hx2
      · injection he9 with he9
        injection he9 with e3 e4
        subst e3 e4
        rw [hx2]
        exact hc9 _ _ hx2
    rw [show off + (I * 3 + 2) = off + I * 3 + 2 by omega, x2, hyx] at e2
    rw [hyc, ← e2]
  clear hyc hx0 hx1 hx2 hRx hyx
  have HO5 := Lib.hid hset
  have Hown5 := Lib.hid own5
  have U1 := Lib.hid u1
  have UV := Lib.hid uv
  have U2 := Lib.hid u2
  clear hset own5 u1 uv u2
  have hgb3 : w.heap.size + 3 ≤ gb := by omega
  have HS5 := Lib.hid (fun (W : World) (hW : Below w5.heap.size w5 W) => And.intro ((U1.out.to hW).cell (j := 1) rfl) ((hW.cell (p := ⟨gb, I * 3 + 2, none⟩) hgl).trans hcell2))
  have hry := Hy.out.below (H5.out.trans ((Below.refl _ w5).drew.mono H5.out.size))
  refine scl_start 12 [(0, true), (1, true), (2, true), (3, true), (4, true), (5, true), (6, true), (7, true), (8, true), (9, false), (10, true), (11, true), (12, false)] (fun W => W.cell? ⟨w.heap.size, 1, none⟩ = some (.slice (some ⟨gb, 0, none⟩) M c4) ∧ W.cell? ⟨gb, I * 3 + 2, none⟩ = some (.slice A2 vl cv)) (by kernel_rfl) rfl (by kernel_rfl) (fun _ _ _ _ _ h => h) (HS5.out _ (Below.refl _ w5).drew) (fun hH => ?_)
  repeat (first | (refine scl_yes (v := ?_) rfl rfl ?_ hH ?_; rotate_left; (focus ((rintro W ⟨a0, a1⟩; go_simp) <;> with_reducible rfl)); simp only [Act.put, List.setIfInBounds_toArray, List.set_cons_zero, List.set_cons_succ]) | (refine scl_no rfl rfl hH ?_; simp only [Act.put, List.setIfInBounds_toArray, List.set_cons_zero, List.set_cons_succ]))
  refine scl_call rfl rfl (fun K' hK' => ?_)
  refine wp_apps (.const (.slice none 0 0)) (.tmp 72) 47 rfl w5.heap.size 30 i1 (.agg #[.int .i64 0, .string ⟨#[]⟩, .int .i64 0]) 3 32 Try.underlying47 hi1 hz01 hz11 hz21 rfl (by omega) (.slice none 0 0) 0 [] rfl (World.ownsRow_nil _ _ _ _) A2 vl cv ys rfl hyl hry Hy1.out (by simp only [maxLen]; omega) (by omega) (Nat.le_refl _) ?_
  intro vF w6 hownF hgF _
  rw [Nat.zero_add, List.nil_append] at hownF
  obtain ⟨A6, c6, rfl⟩ := own_slice3 hownF
  have hB6 : Below w5.heap.size w5 w6 := ((Below.refl _ w5).drew).grown hgF (Nat.le_refl _) (fun k hk => by simp [Value.ownBlock] at hk)
  refine hK'.out _ _ (fun _ => HS5.out _ hB6) ?_
  clear hK' hH
  have hH := HS5.out _ hB6
  repeat (first | (refine scl_yes (v := ?_) rfl rfl ?_ hH ?_; rotate_left; (focus ((rintro W ⟨a0, a1⟩; go_simp) <;> with_reducible rfl)); simp only [Act.put, List.setIfInBounds_toArray, List.set_cons_zero, List.set_cons_succ]) | (refine scl_no rfl rfl hH ?_; simp only [Act.put, List.setIfInBounds_toArray, List.set_cons_zero, List.set_cons_succ]))
  refine scl_call rfl rfl (fun K' hK' => ?_)
  have a1 := hH.2
  obtain ⟨-, hfr6, hset6⟩ := own_put (own_below Hown5.out hB6) (p := I * 3 + 2) (by omega)
  have Hset6 := Lib.hid hset6
  have HownF := Lib.hid hownF
  have HB6 := Lib.hid hB6
  clear hset6 hownF hB6 hgF hry hH
  go_wp2
  have hset6 := Hset6.out
  have hownF := HownF.out
  have hB6 := HB6.out
  refine hK'.out _ _ (fun h => absurd rfl h) ?_
  clear hK' a1
  refine scl_done ?_
  obtain ⟨gf, yf, hAe, hgf, hgfl, -, -, -, -⟩ := own_set hownF (p := 0) (by omega)
  subst hAe
  have r1 := (U1.out.to hB6).other ⟨gb, I * 3 + 2, none⟩ (.slice (some ⟨gf, 0, none⟩) vl c6) (by show w.heap.size ≠ gb; omega)
  have rv := (UV.out.to hB6).other ⟨gb, I * 3 + 2, none⟩ (.slice (some ⟨gf, 0, none⟩) vl c6) (by show w.heap.size + 1 ≠ gb; omega)
  have r2 := (U2.out.to hB6).other ⟨gb, I * 3 + 2, none⟩ (.slice (some ⟨gf, 0, none⟩) vl c6) (by show w.heap.size + 2 ≠ gb; omega)
  have ownO := hset6 (.slice (some ⟨gf, 0, none⟩) vl c6)
  have ownF := own_keep hownF (w' := w6.setCell ⟨gb, I * 3 + 2, none⟩ (.slice (some ⟨gf, 0, none⟩) vl c6)) (fun b n1 n2 => keep_1 (by omega))
  have H7 := Lib.hid ((H5.out.trans (hB6.mono H5.out.size)).setCell (p := ⟨gb, I * 3 + 2, none⟩) (by show w.heap.size ≤ gb; omega) (.slice (some ⟨gf, 0, none⟩) vl c6))
  obtain ⟨⟨yO, hyO, hcO⟩, -, -⟩ := own_put ownO (p := I * 3 + 2) (by omega)
  have hyO2 : yO = .slice (some ⟨gf, 0, none⟩) vl c6 := by
    rw [List.getElem?_set_self (by rw [hxl]; omega)] at hyO
    injection hyO with hyO
    exact hyO.symm
  subst hyO2
  have hgfl7 : gf < (w6.setCell ⟨gb, I * 3 + 2, none⟩ (.slice (some ⟨gf, 0, none⟩) vl c6)).heap.size := by simpa using hgfl
  clear hB6 hownF hset6 hfr6 hyO Hset6 HownF HB6
  generalize w6.setCell ⟨gb, I * 3 + 2, none⟩ (.slice (some ⟨gf, 0, none⟩) vl c6) = w7 at *
  obtain ⟨⟨y1', -, hf0c⟩, hf0f, hset7⟩ := own_put ownF (p := kn * 3) (by omega)
  obtain ⟨⟨y2', -, hf1c⟩, hf1f, -⟩ := own_put ownF (p := kn * 3 + 1) (by omega)
  obtain ⟨⟨y3', -, hf2c⟩, hf2f, -⟩ := own_put ownF (p := kn * 3 + 2) (by omega)
  have own8 := hset7 (.int .i64 n1)
  have own9 := (own_put own8 (p := kn * 3 + 1) (by omega)).2.2 (.string s)
  have own10 := (own_put own9 (p := kn * 3 + 2) (by omega)).2.2 (.int .i64 n2)
  clear hset7 own8 own9 ownF
  have Hc := Lib.hid (And.intro (r1.cell (j := 1) rfl) (And.intro hcO (And.intro (rv.cell (j := 0) rfl) (And.intro (rv.cell (j := 1) rfl) (rv.cell (j := 2) rfl)))))
  have HO7 := Lib.hid ownO
  have HF7 := Lib.hid own10
  have R1 := Lib.hid r1
  have R2 := Lib.hid r2
  have hgg : gf ≠ gb := by omega
  clear hcO ownO own10 r1 rv r2
  go_wp2
  refine sch_start [(0, true), (1, true), (2, true), (3, true), (4, true), (5, true), (6, true), (7, true), (8, true), (9, false)] (fun W => W.cell? ⟨w.heap.size, 1, none⟩ = some (.slice (some ⟨gb, 0, none⟩) M c4) ∧ W.cell? ⟨gb, I * 3 + 2, none⟩ = some (.slice (some ⟨gf, 0, none⟩) vl c6) ∧ W.cell? ⟨w.heap.size + 1, 0, none⟩ = some (.int .i64 n1) ∧ W.cell? ⟨w.heap.size + 1, 1, none⟩ = some (.string s) ∧ W.cell? ⟨w.heap.size + 1, 2, none⟩ = some (.int .i64 n2)) (by kernel_rfl) rfl (by kernel_rfl) (fun _ _ _ _ _ h => h) Hc.out (fun hH => ?_)
  have HcD : Hid (w7.drew.cell? ⟨w.heap.size, 1, none⟩ = some (.slice (some ⟨gb, 0, none⟩) M c4) ∧ w7.drew.cell? ⟨gb, I * 3 + 2, none⟩ = some (.slice (some ⟨gf, 0, none⟩) vl c6) ∧ w7.drew.cell? ⟨w.heap.size + 1, 0, none⟩ = some (.int .i64 n1) ∧ w7.drew.cell? ⟨w.heap.size + 1, 1, none⟩ = some (.string s) ∧ w7.drew.cell? ⟨w.heap.size + 1, 2, none⟩ = some (.int .i64 n2)) := Lib.hid Hc.out
  have m0 : w7.drew.cell? ⟨gf, kn * 3, none⟩ = some y1' := hf0c
  have m1 : w7.drew.cell? ⟨gf, kn * 3 + 1, none⟩ = some y2' := hf1c
  have m2 : w7.drew.cell? ⟨gf, kn * 3 + 2, none⟩ = some y3' := hf2c
  have o0 : w7.drew.frozen? ⟨gf, kn * 3, none⟩ = false := hf0f
  have o1 : w7.drew.frozen? ⟨gf, kn * 3 + 1, none⟩ = false := hf1f
  have o2 : w7.drew.frozen? ⟨gf, kn * 3 + 2, none⟩ = false := hf2f
  have HO7D : Hid (w7.drew.ownsRow w3.heap.size 49 3 (.slice (some ⟨gb, 0, none⟩) M c4) M (xs.set (I * 3 + 2) (.slice (some ⟨gf, 0, none⟩) vl c6))) := Lib.hid HO7.out
  have HF7D : Hid ((((w7.drew.setCell ⟨gf, kn * 3, none⟩ (.int .i64 n1)).setCell ⟨gf, kn * 3 + 1, none⟩ (.string s)).setCell ⟨gf, kn * 3 + 2, none⟩ (.int .i64 n2)).ownsRow w5.heap.size 30 3 (.slice (some ⟨gf, 0, none⟩) vl c6) vl (((ys.set (kn * 3) (.int .i64 n1)).set (kn * 3 + 1) (.string s)).set (kn * 3 + 2) (.int .i64 n2))) := Lib.hid HF7.out
  have R1D : Hid (Blk w7.drew w.heap.size 28 [.slice (some ⟨bt, offt, none⟩) N c, .slice (some ⟨gb, 0, none⟩) M c4, .slice C K e]) := Lib.hid R1.out
  have R2D : Hid (Blk w7.drew (w.heap.size + 2) 28 [.slice none 0 0, .slice none 0 0, .slice none 0 0]) := Lib.hid R2.out
  have H7D := Lib.hid H7.out.drew
  have hgfl7D : gf < w7.drew.heap.size := hgfl7
  clear Hc HO7 HF7 R1 R2 H7 hgfl7 hf0c hf1c hf2c hf0f hf1f hf2f
  generalize w7.drew = w7d at *
  repeat (first | (refine sch_yes (v := ?_) rfl rfl ?_ hH ?_; rotate_left; (focus ((rintro W ⟨a0, a1, a2, a3, a4⟩; go_simp) <;> with_reducible rfl)); simp only [Act.put, List.setIfInBounds_toArray, List.set_cons_zero, List.set_cons_succ]) | (refine sch_no rfl rfl hH ?_; simp only [Act.put, List.setIfInBounds_toArray, List.set_cons_zero, List.set_cons_succ]))
  refine sch_call rfl rfl (fun K' hK' => ?_)
  clear hH
  go_wp2
  have hg8 := grown_set3 (w := w7d) (b := gf) (p := kn * 3) (q := kn * 3 + 1) (r := kn * 3 + 2) (x := .int .i64 n1) (y := .string s) (z := .int .i64 n2)
  have hS8 : (((w7d.setCell ⟨gf, kn * 3, none⟩ (.int .i64 n1)).setCell ⟨gf, kn * 3 + 1, none⟩ (.string s)).setCell ⟨gf, kn * 3 + 2, none⟩ (.int .i64 n2)).cell? ⟨w.heap.size, 1, none⟩ = some (.slice (some ⟨gb, 0, none⟩) M c4) ∧ (((w7d.setCell ⟨gf, kn * 3, none⟩ (.int .i64 n1)).setCell ⟨gf, kn * 3 + 1, none⟩ (.string s)).setCell ⟨gf, kn * 3 + 2, none⟩ (.int .i64 n2)).cell? ⟨gb, I * 3 + 2, none⟩ = some (.slice (some ⟨gf, 0, none⟩) vl c6) ∧ (((w7d.setCell ⟨gf, kn * 3, none⟩ (.int .i64 n1)).setCell ⟨gf, kn * 3 + 1, none⟩ (.string s)).setCell ⟨gf, kn * 3 + 2, none⟩ (.int .i64 n2)).cell? ⟨w.heap.size + 1, 0, none⟩ = some (.int .i64 n1) ∧ (((w7d.setCell ⟨gf, kn * 3, none⟩ (.int .i64 n1)).setCell ⟨gf, kn * 3 + 1, none⟩ (.string s)).setCell ⟨gf, kn * 3 + 2, none⟩ (.int .i64 n2)).cell? ⟨w.heap.size + 1, 1, none⟩ = some (.string s) ∧ (((w7d.setCell ⟨gf, kn * 3, none⟩ (.int .i64 n1)).setCell ⟨gf, kn * 3 + 1, none⟩ (.string s)).setCell ⟨gf, kn * 3 + 2, none⟩ (.int .i64 n2)).cell? ⟨w.heap.size + 1, 2, none⟩ = some (.int .i64 n2) := by
    obtain ⟨a0, a1, a2, a3, a4⟩ := HcD.out
    exact ⟨far3 (w := w7d) a0 (by show gf ≠ w.heap.size; omega), far3 (w := w7d) a1 hgg, far3 (w := w7d) a2 (by show gf ≠ w.heap.size + 1; omega), far3 (w := w7d) a3 (by show gf ≠ w.heap.size + 1; omega), far3 (w := w7d) a4 (by show gf ≠ w.heap.size + 1; omega)⟩
  refine hK'.out _ _ hS8 ?_
  clear hK' hS8 m0 m1 m2 o0 o1 o2
  refine sch_done ?_
  have hk8 : ∀ b, b ≠ gf → (((w7d.setCell ⟨gf, kn * 3, none⟩ (.int .i64 n1)).setCell ⟨gf, kn * 3 + 1, none⟩ (.string s)).setCell ⟨gf, kn * 3 + 2, none⟩ (.int .i64 n2)).heap[b]? = w7d.heap[b]? := fun b n => by
    rw [keep_1 n, keep_1 n, keep_1 n]
  have ownO8 := own_at HO7D.out (w' := ((w7d.setCell ⟨gf, kn * 3, none⟩ (.int .i64 n1)).setCell ⟨gf, kn * 3 + 1, none⟩ (.string s)).setCell ⟨gf, kn * 3 + 2, none⟩ (.int .i64 n2)) (fun b e => hk8 b (by injection e with e; intro hh; exact hgg (hh.symm.trans e.symm)))
  have ownF8 : (((w7d.setCell ⟨gf, kn * 3, none⟩ (.int .i64 n1)).setCell ⟨gf, kn * 3 + 1, none⟩ (.string s)).setCell ⟨gf, kn * 3 + 2, none⟩ (.int .i64 n2)).ownsRow w5.heap.size 30 3 (.slice (some ⟨gf, 0, none⟩) vl c6) vl (((ys.set (kn * 3) (.int .i64 n1)).set (kn * 3 + 1) (.string s)).set (kn * 3 + 2) (.int .i64 n2)) := HF7D.out
  have r1 : Blk (((w7d.setCell ⟨gf, kn * 3, none⟩ (.int .i64 n1)).setCell ⟨gf, kn * 3 + 1, none⟩ (.string s)).setCell ⟨gf, kn * 3 + 2, none⟩ (.int .i64 n2)) w.heap.size 28 [.slice (some ⟨bt, offt, none⟩) N c, .slice (some ⟨gb, 0, none⟩) M c4, .slice C K e] := (hk8 _ (by omega)).trans R1D.out
  have r2 : Blk (((w7d.setCell ⟨gf, kn * 3, none⟩ (.int .i64 n1)).setCell ⟨gf, kn * 3 + 1, none⟩ (.string s)).setCell ⟨gf, kn * 3 + 2, none⟩ (.int .i64 n2)) (w.heap.size + 2) 28 [.slice none 0 0, .slice none 0 0, .slice none 0 0] := (hk8 _ (by omega)).trans R2D.out
  have H8 := Lib.hid (((H7D.out.setCell (p := ⟨gf, kn * 3, none⟩) (by show w.heap.size ≤ gf; omega) (.int .i64 n1)).setCell (p := ⟨gf, kn * 3 + 1, none⟩) (by show w.heap.size ≤ gf; omega) (.string s)).setCell (p := ⟨gf, kn * 3 + 2, none⟩) (by show w.heap.size ≤ gf; omega) (.int .i64 n2))
  have hgl8 : gf < (((w7d.setCell ⟨gf, kn * 3, none⟩ (.int .i64 n1)).setCell ⟨gf, kn * 3 + 1, none⟩ (.string s)).setCell ⟨gf, kn * 3 + 2, none⟩ (.int .i64 n2)).heap.size := by
    rw [World.size_setCell, World.size_setCell, World.size_setCell]; exact hgfl7D
  clear hg8 hk8 HO7D HF7D R1D R2D HcD H7D hgfl7D
  have HO8 := Lib.hid ownO8
  have HF8 := Lib.hid ownF8
  clear ownO8 ownF8
  generalize ((w7d.setCell ⟨gf, kn * 3, none⟩ (.int .i64 n1)).setCell ⟨gf, kn * 3 + 1, none⟩ (.string s)).setCell ⟨gf, kn * 3 + 2, none⟩ (.int .i64 n2) = w8 at *
  have x0 := r1.cell (j := 0) rfl
  have x1 := r1.cell (j := 1) rfl
  have x2 := r1.cell (j := 2) rfl
  have y0 := r2.cell (j := 0) rfl
  have y1 := r2.cell (j := 1) rfl
  have y2 := r2.cell (j := 2) rfl
  have g0 := r2.frozen 0
  have g1 := r2.frozen 1
  have g2 := r2.frozen 2
  go_wp2
  have P9 := ((r2.set 0 (.slice (some ⟨bt, offt, none⟩) N c)).set 1 (.slice (some ⟨gb, 0, none⟩) M c4)).set 2 (.slice C K e)
  refine ret_cell1 (d := .struct _) (cs := [.slice (some ⟨bt, offt, none⟩) N c, .slice (some ⟨gb, 0, none⟩) M c4, .slice C K e]) rfl P9 rfl rfl rfl rfl rfl ?_
  have hBz := ((H8.out.setCell (p := ⟨w.heap.size + 2, 0, none⟩) (by simp) (.slice (some ⟨bt, offt, none⟩) N c)).setCell (p := ⟨w.heap.size + 2, 1, none⟩) (by simp) (.slice (some ⟨gb, 0, none⟩) M c4)).setCell (p := ⟨w.heap.size + 2, 2, none⟩) (by simp) (.slice C K e)
  have hkz : ∀ b, b ≠ w.heap.size + 2 → (((w8.setCell ⟨w.heap.size + 2, 0, none⟩ (.slice (some ⟨bt, offt, none⟩) N c)).setCell ⟨w.heap.size + 2, 1, none⟩ (.slice (some ⟨gb, 0, none⟩) M c4)).setCell ⟨w.heap.size + 2, 2, none⟩ (.slice C K e)).heap[b]? = w8.heap[b]? := fun b n => by rw [keep_1 n, keep_1 n, keep_1 n]
  have hO9 := own_at HO8.out (w' := ((w8.setCell ⟨w.heap.size + 2, 0, none⟩ (.slice (some ⟨bt, offt, none⟩) N c)).setCell ⟨w.heap.size + 2, 1, none⟩ (.slice (some ⟨gb, 0, none⟩) M c4)).setCell ⟨w.heap.size + 2, 2, none⟩ (.slice C K e)) (fun b e => hkz b (by injection e with e; have e' : gb = b := e; omega))
  have hF9 := own_at HF8.out (w' := ((w8.setCell ⟨w.heap.size + 2, 0, none⟩ (.slice (some ⟨bt, offt, none⟩) N c)).setCell ⟨w.heap.size + 2, 1, none⟩ (.slice (some ⟨gb, 0, none⟩) M c4)).setCell ⟨w.heap.size + 2, 2, none⟩ (.slice C K e)) (fun b e => hkz b (by injection e with e; have e' : gf = b := e; omega))
  have hrd := set_graph (base := w.heap.size) (d1 := c4) (v := v) hBz Hh.out (own_mono hO9 (by omega)) (own_mono hF9 (by omega)) hgg (by rw [World.size_setCell, World.size_setCell, World.size_setCell]; exact hgl8) (Nat.le_refl _) Hxc.out Hyc.out Ho.out (by rw [Hvl.out]; omega) Hvl.out Hrv2.out
  rw [Hn.out, Hr.out]
  refine ⟨some ⟨bt, offt, none⟩, c, some ⟨gb, 0, none⟩, c4, C, e, ?_, ?_, hBz⟩
  · simp only [List.length_set]
    rw [HN.out, HM.out, HK.out]
    rfl
  · simp only [List.length_set]
    rw [HN.out, HM.out, HK.out]
    exact hrd
end Go.Proofs.Ytembafogbfcajaa

/- As Fork, for a region whose last operation, which in every order waits for all that is taken ahead, may break what the free operations read. No condition. -/
namespace Go.Proofs.Ytembafogbfcajaa
open Go.RowKit

def wpFrl (P : Program) (L : List Oper) (l : Nat) (Q : Exit → Act → World → Prop) (S : World → Prop) (n : Nat) (listed : Array Bool) (a : Act) (w : World) : Prop :=
  (∀ (d : Tmp) (v : Value) c a w, Q (.panic c) (a.put (some d) v) w → Q (.panic c) a w) → wpUpto P .any L.toArray Q S l n listed a w
def frlOk (L : List Oper) (l : Nat) (listed : Array Bool) (i : Nat) : Bool := i != l && toLastB .any L.toArray l listed L.length i && Region.noSelect L.toArray && Region.free .any L.toArray listed i && (Region.ready .any L.toArray listed).contains i
section
variable {P : Program} {L : List Oper} {Q : Exit → Act → World → Prop} {S : World → Prop} {o : Oper} {l n : Nat} {listed : Array Bool} {a : Act} {w : World}
theorem frl_yes (i : Nat) {v : Value} (hi : L[i]? = some o) (hok : frlOk L l listed i = true) (hw : Region.wanted o (yielded L.toArray a.tmps) = true) (hv : ∀ W, S W → (execOp a.eval o).run P W = .ok (.value v) W) (hS : S w)
    (h : wpFrl P L l Q S n (listed.setIfInBounds i true) (a.put o.dst v) w) : wpFrl P L l Q S (n + 1) listed a w := by
  intro hQ
  simp only [frlOk, Bool.and_eq_true, bne_iff_ne] at hok
  obtain ⟨⟨⟨⟨hil, hto⟩, hs⟩, hf⟩, hr⟩ := hok
  have hi' : L.toArray[i]? = some o := by simpa using hi
  exact wpUpto_first hi' hil hs (fun c a w hq => by
    cases hd : o.dst with
    | none => rw [hd] at hq; exact hq
    | some d => rw [hd] at hq; exact hQ d v c a w hq) _ listed a w (Region.free_spec hi' hf) (by simpa using hr) (toLast_of _ _ hto) (.inl ⟨hw, hv⟩) hS (h hQ)
theorem frl_op (rs : List Nat) (hr : Region.ready .any L.toArray listed = rs) (hne : rs ≠ [])
    (h : ∀ j ∈ rs, ∃ o, L[j]? = some o ∧ Region.wanted o (yielded L.toArray a.tmps) = true ∧ ∀ K : Act → World → Prop, Hid (∀ a' w', (j ≠ l → S w') → wpFrl P L l Q S n (listed.setIfInBounds j true) a' w' → K a' w') → o.wp P a w K Q) : wpFrl P L l Q S (n + 1) listed a w := by
  intro hQ
  refine ⟨fun h0 => absurd (hr.symm.trans h0) hne, fun j hj => ?_⟩
  rw [hr] at hj
  obtain ⟨o, ho, hw, hk⟩ := h j hj
  unfold wpOp
  simp only [List.getElem?_toArray, ho, hw, if_true]
  exact .inl (hk _ (fun a' w' hS h' => ⟨hS, h' hQ⟩))
theorem frl_done (hr : Region.ready .any L.toArray listed = []) (h : Q .normal a w) : wpFrl P L l Q S 0 listed a w := fun _ => ⟨hr, h⟩
theorem frl_start {id : Nat} (l : Nat) (S : World → Prop) (k : Nat) (hm : P.follows .mixedOrders = true) (hl : L.length = k) (hQ : ∀ (d : Tmp) (v : Value) c a w, Q (.panic c) (a.put (some d) v) w → Q (.panic c) a w) (hS : S w.drew)
    (h : S w.drew → wpFrl P L l Q S k (Array.replicate k false) a w.drew) : (Code.region id L.toArray true).wp P Q a w := by
  refine wp_region_any hm (wpAny_of_upto (S := S) (l := l) _ _ _ _ ?_)
  have := h hS hQ
  rw [← hl] at this
  simpa using this
end
end Go.Proofs.Ytembafogbfcajaa

/- The contract of the document's own Zero. No condition. -/
namespace Go.Proofs.Ytembafogbfcajaa
open Go.RowKit

theorem blk_new2 (w : World) (o : Obj) (t : TypeId) (cs : List Value) : Blk ((w.alloc o).alloc (.cells cs.toArray t)) (w.heap.size + 1) t cs := by
  have := Blk.new (w.alloc o) t cs
  rwa [World.size_alloc] at this

set_option maxRecDepth 100000 in
set_option maxHeartbeats 1000000 in
theorem rvlzero_any (a b : ByteArray) (k : Int) (w : World) :
    Calls Try.prog 37 #[.agg #[.string a, .int .i64 k, .string b]] w fun e w' => e = .returned (.agg #[.int .i64 0, .string ⟨#[]⟩, .int .i64 (zeroV k).2.2]) ∧ Below w.heap.size w w' := by
  have hB : ∀ u v, Below w.heap.size w ((w.alloc (.cells u 51)).alloc (.cells v 30)) := fun u v => ((Below.refl _ w).alloc (Nat.le_refl _) _).alloc (by simp) _
  have HB := Lib.hid hB
  clear hB
  by_cases hk : k = 5
  · subst hk
    go_enter Try.func37, Try.ntmps37
    go_wp2
    refine ret_cell0 (d := .struct _) (cs := [.int .i64 0, .string ⟨#[]⟩, .int .i64 (-1)]) rfl (blk_new2 _ _ _ _) rfl rfl rfl rfl rfl ?_
    exact ⟨rfl, HB.out _ _⟩
  · have e5 : (k == 5) = false := beq_false_of_ne hk
    rw [zeroV, if_neg hk]
    go_enter Try.func37, Try.ntmps37
    go_wp2
    refine ret_cell0 (d := .struct _) (cs := [.int .i64 0, .string ⟨#[]⟩, .int .i64 0]) rfl (blk_new2 _ _ _ _) rfl rfl rfl rfl rfl ?_
    exact ⟨rfl, HB.out _ _⟩
end Go.Proofs.Ytembafogbfcajaa

/- The contract of the document's own New (layer 8): just what the plain function tells. Nothing that was there is changed. Condition: names of at most 1048576 bytes. -/
namespace Go.Proofs.Ytembafogbfcajaa
open Go.RowKit

theorem keep_n {w : World} {b p : Nat} {u : Value} {k : Nat} (h : k ≠ b) : (w.setCell ⟨b, p, none⟩ u).heap[k]? = w.heap[k]? := Below.heap_setCell _ _ _ _ h
/-- Values that look into nothing, in a row of the call's own. -/
theorem own_vals {w : World} {base n c : Nat} {A : Option Addr} {xs : List Value} {l : List Vl} (h : w.ownsRow base 30 3 (.slice A n c) n xs) (hn : l.length = n) (hc : Chunks 3 (fun cs x => ∀ S W, rVal S W cs x) xs l) : rVals (fun b => (Value.slice A n c).ownBlock = some b) w [.slice A n c] l := by
  have hc' := hc.imp (R' := rVal (fun b => (Value.slice A n c).ownBlock = some b) w) fun cs x hq => hq _ _
  subst hn
  rcases h.2 with ⟨hv, h0⟩ | ⟨g, cap, cur, hv, _⟩
  · injection hv with e1 e2 e3
    subst e1 e3
    have hl : l = [] := List.eq_nil_of_length_eq_zero h0
    subst hl
    exact ⟨none, 0, xs, rfl, Nat.le_refl _, Nat.zero_le _, .inl (List.eq_nil_of_length_eq_zero (by simpa using h.1)), hc'⟩
  · injection hv with e1 e2 e3
    subst e1 e3
    obtain ⟨hr, h1, h2⟩ := own_rdIn h
    exact ⟨_, _, xs, rfl, h1, h2, hr.keeps (fun b e => by subst e; exact ⟨rfl, rfl⟩), hc'⟩
/-- A graph with one object more, whose values look into nothing. -/
theorem new_graph {w W : World} {A B C B1 AF : Option Addr} {N c M d K e d1 fl cF base baseF : Nat} {g : Gr} {id t : Int} {zs : List Vl} {xs ys : List Value} (hB : Below w.heap.size w W) (h : rGr (All w) w [.slice A N c, .slice B M d, .slice C K e] g)
    (hO : W.ownsRow base 49 3 (.slice B1 (M + 1) d1) (M + 1) (xs ++ [.int .i64 id, .int .i64 t, .slice AF fl cF])) (hF : W.ownsRow baseF 30 3 (.slice AF fl cF) fl ys) (hne : ∀ b, (Value.slice AF fl cF).ownBlock = some b → b < base) (hb : w.heap.size ≤ base)
    (hch : Chunks 3 (rOb (All w) w) xs g.2.1) (hz : Chunks 3 (fun cs x => ∀ S W, rVal S W cs x) ys zs) (hzl : zs.length = fl) (hid : (Lit.int .i64 id).wf = true) (ht : (Lit.int .i64 t).wf = true) :
    rGr (All W) W [.slice A N c, .slice B1 (M + 1) d1, .slice C K e] (g.1, g.2.1 ++ [(id, t, zs)], g.2.2) := by
  refine rGr_mk (rGr_open (gr_below hB h)).1 ?_ (rGr_open (gr_below hB h)).2.2
  have hM := (slice_len (rGr_open h).2.1).1
  have hkeep : Keeps (All w) (fun b => b < W.heap.size ∧ some b ≠ (Value.slice B1 (M + 1) d1).ownBlock) w W := fun b hb' => ⟨⟨Nat.lt_of_lt_of_le hb' hB.size, fun e => by
    have h1 := (hO.lt b e.symm).1
    have h2 : b < w.heap.size := hb'
    omega⟩, hB.block b hb'⟩
  have hv := rVals_stays.to (S' := fun b => b < W.heap.size ∧ some b ≠ (Value.slice B1 (M + 1) d1).ownBlock) (w' := W) (fun b e => ⟨⟨(hF.lt b e).2, fun e2 => by have h1 := (hO.lt b e2.symm).1; have h2 := hne b e; omega⟩, rfl⟩) (own_vals hF hzl hz)
  have h1 := (hch.imp (R' := rOb (fun b => b < W.heap.size ∧ some b ≠ (Value.slice B1 (M + 1) d1).ownBlock) W) fun cs x hq => rOb_stays.to hkeep hq).append (Chunks.one (size := 3) (a := (id, t, zs)) rfl (rOb_mk (o := (id, t, zs)) hid ht hv))
  exact own_rSlice rOb_stays hO (by rw [List.length_append, hM]; rfl) h1

set_option maxRecDepth 100000 in
set_option maxHeartbeats 4000000 in
theorem rnew_any (A B C : Option Addr) (N c M d K e : Nat) (g : Gr) (t : Int) (w : World) (h : rGr (All w) w [.slice A N c, .slice B M d, .slice C K e] g) (htame : tameS g.1) (ht64 : (Lit.int .i64 t).wf = true) :
    Calls Try.prog 13 #[.agg #[.slice A N c, .slice B M d, .slice C K e], .int .i64 t] w fun e w' => ∃ A1 c1 B1 d1 C1 e1, e = .returned (.tuple #[.agg #[.slice A1 (newG g t).1.length c1, .slice B1 (newG g t).2.1.length d1, .slice C1 (newG g t).2.2.length e1], .int .i64 (newI g t), .int .i64 (newE g t)]) ∧
      rGr (All w') w' [.slice A1 (newG g t).1.length c1, .slice B1 (newG g t).2.1.length d1, .slice C1 (newG g t).2.2.length e1] (newG g t) ∧ Below w.heap.size w w' := by
  obtain ⟨i0, hi, hz0, hz1, hz2⟩ := info_parts info_obj
  obtain ⟨i1, hi1, hz01, hz11, hz21⟩ := info_parts info_vals
  obtain ⟨hN, -, -⟩ := slice_len (rGr_open h).1
  obtain ⟨hM, -, -⟩ := slice_len (rGr_open h).2.1
  obtain ⟨hK, -, -⟩ := slice_len (rGr_open h).2.2
  have hB0 : Below w.heap.size w ((w.alloc (.cells #[.slice A N c, .slice B M d, .slice C K e] 28)).alloc (.cells #[.slice none 0 0, .slice none 0 0, .slice none 0 0] 28)) := ((Below.refl _ w).alloc (Nat.le_refl _) _).alloc (by simp) _
  obtain ⟨p1, p2⟩ := blk_two w 28 28 [.slice A N c, .slice B M d, .slice C K e] [.slice none 0 0, .slice none 0 0, .slice none 0 0]
  have TM := Lib.hid (rgmay_any A B C N c M d K e g _ (gr_below hB0 h) htame)
  have HB0 := Lib.hid hB0
  have s0 : w.heap.size + 2 = ((w.alloc (.cells #[.slice A N c, .slice B M d, .slice C K e] 28)).alloc (.cells #[.slice none 0 0, .slice none 0 0, .slice none 0 0] 28)).heap.size := by simp
  have Hh := Lib.hid h
  have HN := Lib.hid hN
  have HM := Lib.hid hM
  have HK := Lib.hid hK
  clear hB0 htame h hN hM hK
  by_cases hm : mayG g = true
  case neg =>
    replace hm : mayG g = false := by simpa using hm
    have Hr : Hid (newE g t = 1) := Lib.hid (by rw [newE, if_neg (by rw [hm]; decide)])
    rw [hm] at TM
    clear hm
    go_enter Try.func13, Try.ntmps13
    go_wp2_with fail
    refine TM.out.mono ?_
    rintro e w1 ⟨rfl, hB1⟩
    have H1 := Lib.hid (HB0.out.trans (hB1.mono HB0.out.size))
    replace p1 := p1.to hB1
    replace p2 := p2.to hB1
    clear hB1 HB0 TM
    have x0 := p1.cell (j := 0) rfl
    have x1 := p1.cell (j := 1) rfl
    have x2 := p1.cell (j := 2) rfl
    have y0 := p2.cell (j := 0) rfl
    have y1 := p2.cell (j := 1) rfl
    have y2 := p2.cell (j := 2) rfl
    have g0 := p2.frozen 0
    have g1 := p2.frozen 1
    have g2 := p2.frozen 2
    go_wp2
    have P9 := ((p2.set 0 (.slice A N c)).set 1 (.slice B M d)).set 2 (.slice C K e)
    refine ret_cell2 (d := .struct _) (cs := [.slice A N c, .slice B M d, .slice C K e]) rfl P9 rfl rfl rfl rfl rfl ?_
    have hBz := ((H1.out.setCell (p := ⟨w.heap.size + 1, 0, none⟩) (by simp) (.slice A N c)).setCell (p := ⟨w.heap.size + 1, 1, none⟩) (by simp) (.slice B M d)).setCell (p := ⟨w.heap.size + 1, 2, none⟩) (by simp) (.slice C K e)
    have hnn : newG g t = g := if_neg (by rw [Hr.out]; decide)
    have hni : newI g t = -1 := if_neg (by rw [Hr.out]; decide)
    rw [hnn, hni, Hr.out, HN.out, HM.out, HK.out]
    exact ⟨A, c, B, d, C, e, rfl, gr_below hBz Hh.out, hBz⟩
  rw [hm] at TM
  have hM8 : M ≤ 8 := by have := (mayG_parts hm).2.1; have := HM.out; omega
  have HE : Hid (newE g t = if (decide (0 ≤ t) && decide (t < (N : Int))) = true then if M = 8 ∨ 1073741824 < nextG g.2.1 then 8 else 0 else 6) := Lib.hid (by rw [newE, if_pos hm, HN.out, HM.out])
  have hnlow := nextG_low hm
  have Hnx : Hid ((M = 0 ∧ nextG g.2.1 = 0) ∨ ∃ m o, M = m + 1 ∧ g.2.1[m]? = some o ∧ nextG g.2.1 = o.1 + 1 ∧ 0 ≤ o.1 ∧ o.1 ≤ 1073741824) := Lib.hid (by
    by_cases h0 : M = 0
    · refine .inl ⟨h0, ?_⟩
      rw [List.eq_nil_of_length_eq_zero (by rw [HM.out]; exact h0 : g.2.1.length = 0)]
      rfl
    · obtain ⟨m, hm1⟩ : ∃ m, M = m + 1 := ⟨M - 1, by omega⟩
      obtain ⟨o, ho⟩ : ∃ o, g.2.1[m]? = some o := ⟨_, List.getElem?_eq_getElem (by have := HM.out; omega)⟩
      have mo := mayG_obj hm (List.mem_of_getElem? ho)
      exact .inr ⟨m, o, hm1, ho, nextG_last (by rw [HM.out, hm1, Nat.add_sub_cancel]; exact ho), mo.id0, mo.id1⟩)
  have Hms := Lib.hid (mayG_parts hm).1
  clear hm
  go_enter Try.func13, Try.ntmps13
  go_wp2_with fail
  refine TM.out.mono ?_
  rintro e w1 ⟨rfl, hB1⟩
  have H1 := Lib.hid (HB0.out.trans (hB1.mono HB0.out.size))
  have l1 : w.heap.size + 2 ≤ w1.heap.size := by rw [s0]; exact hB1.size
  replace p1 := p1.to hB1
  replace p2 := p2.to hB1
  clear hB1 HB0 s0 TM
  by_cases c1 : t < 0
  · have k1 : decide (t < 0) = true := decide_eq_true c1
    have Hr : Hid (newE g t = 6) := Lib.hid (by rw [HE.out, if_neg (by rw [decide_eq_false (by omega : ¬ 0 ≤ t)]; simp)])
    clear HE Hnx c1 hnlow
    have x0 := p1.cell (j := 0) rfl
    have x1 := p1.cell (j := 1) rfl
    have x2 := p1.cell (j := 2) rfl
    have y0 := p2.cell (j := 0) rfl
    have y1 := p2.cell (j := 1) rfl
    have y2 := p2.cell (j := 2) rfl
    have g0 := p2.frozen 0
    have g1 := p2.frozen 1
    have g2 := p2.frozen 2
    go_wp2
    have P9 := ((p2.set 0 (.slice A N c)).set 1 (.slice B M d)).set 2 (.slice C K e)
    refine ret_cell2 (d := .struct _) (cs := [.slice A N c, .slice B M d, .slice C K e]) rfl P9 rfl rfl rfl rfl rfl ?_
    have hBz := ((H1.out.setCell (p := ⟨w.heap.size + 1, 0, none⟩) (by simp) (.slice A N c)).setCell (p := ⟨w.heap.size + 1, 1, none⟩) (by simp) (.slice B M d)).setCell (p := ⟨w.heap.size + 1, 2, none⟩) (by simp) (.slice C K e)
    have hnn : newG g t = g := if_neg (by rw [Hr.out]; decide)
    have hni : newI g t = -1 := if_neg (by rw [Hr.out]; decide)
    rw [hnn, hni, Hr.out, HN.out, HM.out, HK.out]
    exact ⟨A, c, B, d, C, e, rfl, gr_below hBz Hh.out, hBz⟩
  have k1 : decide (t < 0) = false := decide_eq_false c1
  by_cases c2 : (N : Int) ≤ t
  · have k2 : decide ((N : Int) ≤ t) = true := decide_eq_true c2
    have Hr : Hid (newE g t = 6) := Lib.hid (by rw [HE.out, if_neg (by rw [decide_eq_false (by omega : ¬ t < (N : Int))]; simp)])
    clear HE Hnx c1 c2 hnlow
    have x0 := p1.cell (j := 0) rfl
    have x1 := p1.cell (j := 1) rfl
    have x2 := p1.cell (j := 2) rfl
    have y0 := p2.cell (j := 0) rfl
    have y1 := p2.cell (j := 1) rfl
    have y2 := p2.cell (j := 2) rfl
    have g0 := p2.frozen 0
    have g1 := p2.frozen 1
    have g2 := p2.frozen 2
    go_wp2
    have P9 := ((p2.set 0 (.slice A N c)).set 1 (.slice B M d)).set 2 (.slice C K e)
    refine ret_cell2 (d := .struct _) (cs := [.slice A N c, .slice B M d, .slice C K e]) rfl P9 rfl rfl rfl rfl rfl ?_
    have hBz := ((H1.out.setCell (p := ⟨w.heap.size + 1, 0, none⟩) (by simp) (.slice A N c)).setCell (p := ⟨w.heap.size + 1, 1, none⟩) (by simp) (.slice B M d)).setCell (p := ⟨w.heap.size + 1, 2, none⟩) (by simp) (.slice C K e)
    have hnn : newG g t = g := if_neg (by rw [Hr.out]; decide)
    have hni : newI g t = -1 := if_neg (by rw [Hr.out]; decide)
    rw [hnn, hni, Hr.out, HN.out, HM.out, HK.out]
    exact ⟨A, c, B, d, C, e, rfl, gr_below hBz Hh.out, hBz⟩
  have k2 : decide ((N : Int) ≤ t) = false := decide_eq_false c2
  obtain ⟨tn, rfl⟩ : ∃ tn : Nat, t = (tn : Int) := ⟨t.toNat, by omega⟩
  have k2' : decide (N ≤ tn) = false := decide_eq_false (by omega)
  have k3 : (tn : Int) < (N : Int) := by omega
  have k4 : (0 : Int) ≤ (tn : Int) := Int.natCast_nonneg tn
  have HE2 : Hid (newE g (tn : Int) = if M = 8 ∨ 1073741824 < nextG g.2.1 then 8 else 0) := Lib.hid (by rw [HE.out, if_pos (by rw [decide_eq_true k4, decide_eq_true k3]; rfl)])
  clear HE c1 c2
  -- the next id, whichever way: by a cut
  have x1a := p1.cell (j := 1) rfl
  have x0a := p1.cell (j := 0) rfl
  generalize hnx : nextG g.2.1 = nid at *
  go_upto_if 30 with fail
  go_cut [8] (fun v8 wx => v8 = .int .i64 nid ∧ wx = w1)
  case first =>
    rcases Hnx.out with ⟨hM0, hn0⟩ | ⟨m, o, hMm, ho, hno, o0, o1⟩
    · subst hn0 hM0
      go_wp2
      go_meet
      case rel => exact ⟨rfl, by trivial⟩
    · have e0 : decide ((0 : Int) < (M : Int)) = true := decide_eq_true (by omega)
      have e0' : decide (0 < M) = true := decide_eq_true (by omega)
      obtain ⟨b, off, A2, cv, rfl, hb, z0, -, -, -, -, -⟩ := ob_at (rGr_open (gr_below H1.out Hh.out)).2.1 ho
      have e2 : (M : Int) - 1 < (M : Int) := by omega
      have e3 : (0 : Int) ≤ (M : Int) - 1 := by omega
      rw [show m = M - 1 by omega] at z0
      have Hno := Lib.hid hno
      clear ho hno hMm
      generalize o.1 = ov at *
      go_wp2
      go_meet
      case rel => exact ⟨by rw [Hno.out], by trivial⟩
  case rest =>
    obtain ⟨rfl, hwc⟩ := hcut
    replace hwc := hwc.symm
    subst hwc
    clear Hnx x1a x0a
    by_cases c3 : M = 8
    · have k5 : ((M : Int) == 8) = true := by rw [c3]; rfl
      have k6 : (M == 8) = true := by rw [c3]; rfl
      have Hr : Hid (newE g (tn : Int) = 8) := Lib.hid (by rw [HE2.out, if_pos (.inl c3)])
      clear HE2 c3
      have x0 := p1.cell (j := 0) rfl
      have x1 := p1.cell (j := 1) rfl
      have x2 := p1.cell (j := 2) rfl
      have y0 := p2.cell (j := 0) rfl
      have y1 := p2.cell (j := 1) rfl
      have y2 := p2.cell (j := 2) rfl
      have g0 := p2.frozen 0
      have g1 := p2.frozen 1
      have g2 := p2.frozen 2
      go_wp2
      have P9 := ((p2.set 0 (.slice A N c)).set 1 (.slice B M d)).set 2 (.slice C K e)
      refine ret_cell2 (d := .struct _) (cs := [.slice A N c, .slice B M d, .slice C K e]) rfl P9 rfl rfl rfl rfl rfl ?_
      have hBz := ((H1.out.setCell (p := ⟨w.heap.size + 1, 0, none⟩) (by simp) (.slice A N c)).setCell (p := ⟨w.heap.size + 1, 1, none⟩) (by simp) (.slice B M d)).setCell (p := ⟨w.heap.size + 1, 2, none⟩) (by simp) (.slice C K e)
      have hnn : newG g (tn : Int) = g := if_neg (by rw [Hr.out]; decide)
      have hni : newI g (tn : Int) = -1 := if_neg (by rw [Hr.out]; decide)
      rw [hnn, hni, Hr.out, HN.out, HM.out, HK.out]
      exact ⟨A, c, B, d, C, e, rfl, gr_below hBz Hh.out, hBz⟩
    have k5 : ((M : Int) == 8) = false := by rw [beq_eq_false_iff_ne]; omega
    by_cases c4 : 1073741824 < nid
    · have k7 : decide (1073741824 < nid) = true := decide_eq_true c4
      have Hr : Hid (newE g (tn : Int) = 8) := Lib.hid (by rw [HE2.out, if_pos (.inr c4)])
      clear HE2 c3 c4
      have x0 := p1.cell (j := 0) rfl
      have x1 := p1.cell (j := 1) rfl
      have x2 := p1.cell (j := 2) rfl
      have y0 := p2.cell (j := 0) rfl
      have y1 := p2.cell (j := 1) rfl
      have y2 := p2.cell (j := 2) rfl
      have g0 := p2.frozen 0
      have g1 := p2.frozen 1
      have g2 := p2.frozen 2
      go_wp2
      have P9 := ((p2.set 0 (.slice A N c)).set 1 (.slice B M d)).set 2 (.slice C K e)
      refine ret_cell2 (d := .struct _) (cs := [.slice A N c, .slice B M d, .slice C K e]) rfl P9 rfl rfl rfl rfl rfl ?_
      have hBz := ((H1.out.setCell (p := ⟨w.heap.size + 1, 0, none⟩) (by simp) (.slice A N c)).setCell (p := ⟨w.heap.size + 1, 1, none⟩) (by simp) (.slice B M d)).setCell (p := ⟨w.heap.size + 1, 2, none⟩) (by simp) (.slice C K e)
      have hnn : newG g (tn : Int) = g := if_neg (by rw [Hr.out]; decide)
      have hni : newI g (tn : Int) = -1 := if_neg (by rw [Hr.out]; decide)
      rw [hnn, hni, Hr.out, HN.out, HM.out, HK.out]
      exact ⟨A, c, B, d, C, e, rfl, gr_below hBz Hh.out, hBz⟩
    have k7 : decide (1073741824 < nid) = false := decide_eq_false c4
    have Hr : Hid (newE g (tn : Int) = 0) := Lib.hid (by rw [HE2.out, if_neg (fun hh => hh.elim c3 c4)])
    have Hg9 : Hid (newG g (tn : Int) = (g.1, g.2.1 ++ [(nid, (tn : Int), (fldsG g.1 (tn : Int)).map fun f => zeroV f.2.1)], g.2.2)) := Lib.hid (by rw [newG, if_pos Hr.out, hnx])
    have Hi9 : Hid (newI g (tn : Int) = nid) := Lib.hid (by rw [newI, if_pos Hr.out, hnx])
    have Hid64 : Hid ((Lit.int .i64 nid).wf = true) := Lib.hid (WalkArith.wf_i64 ⟨by omega, by omega⟩)
    clear HE2 c3 hnx
    obtain ⟨ty, hty⟩ : ∃ ty, g.1[tn]? = some ty := ⟨_, List.getElem?_eq_getElem (by have := HN.out; omega)⟩
    rw [fldsG_at rfl hty] at Hg9
    obtain ⟨bt, offt, st, AF, cF, hAe, hbt, -, y1, -, -, hfs⟩ := typ_at (rGr_open Hh.out).1 hty
    subst hAe
    obtain ⟨xs, hxr, hxl, hxc⟩ := slice_cells (rGr_open Hh.out).2.1
    have hv5 : ty.2.length ≤ 5 := by
      obtain ⟨-, m7⟩ := (mayS_iff g.1).1 Hms.out
      obtain ⟨-, -, m6, -⟩ := (mayT_iff g.1 tn ty).1 (m7 tn ty hty)
      omega
    have Hx := Lib.hid hxr
    have Hxc := Lib.hid hxc
    have Hx1 := Lib.hid (chunks_all1 ob_one hxc)
    have Hfs := Lib.hid hfs
    clear hxr hxc hfs hty c4
    generalize hfl : ty.2.length = fl at *
    have Hfl := Lib.hid hfl
    clear hfl
    have x0 := p1.cell (j := 0) rfl
    have x1 := p1.cell (j := 1) rfl
    have hB2 : Below w1.heap.size w1 (w1.alloc (.cells #[.int .i64 nid, .int .i64 (tn : Int), .slice none 0 0] 49)) := (Below.refl _ w1).alloc (Nat.le_refl _) _
    have po := Blk.new w1 49 [.int .i64 nid, .int .i64 (tn : Int), .slice none 0 0]
    have P1 := Lib.hid (p1.to hB2)
    have P2 := Lib.hid (p2.to hB2)
    have PO := Lib.hid po
    have H2 := Lib.hid (H1.out.trans (hB2.mono H1.out.size))
    have hs2 : (w1.alloc (.cells #[.int .i64 nid, .int .i64 (tn : Int), .slice none 0 0] 49)).heap.size = w1.heap.size + 1 := by simp
    clear hB2 po p1 p2 H1
    go_wp2
    clear x0 x1
    generalize w1.alloc (.cells #[.int .i64 nid, .int .i64 (tn : Int), .slice none 0 0] 49) = w2 at *
    generalize w1.heap.size = bo at *
    go_loopw [10] (fun kv W => ∃ (k : Nat) (AF : Option Addr) (cf : Nat) (ys : List Value), k ≤ fl ∧ kv = .int .i64 (k : Int) ∧ Hid (Below w.heap.size w W) ∧ Hid (Blk W bo 49 [.int .i64 nid, .int .i64 (tn : Int), .slice AF k cf]) ∧ Hid (Blk W w.heap.size 28 [.slice (some ⟨bt, offt, none⟩) N c, .slice B M d, .slice C K e]) ∧ Hid (Blk W (w.heap.size + 1) 28 [.slice none 0 0, .slice none 0 0, .slice none 0 0]) ∧ Hid (W.ownsRow (bo + 1) 30 3 (.slice AF k cf) k ys) ∧ Hid (Chunks 3 (fun cs x => ∀ S W, rVal S W cs x) ys ((ty.2.take k).map fun f => zeroV f.2.1))) (fun kv _ => fl - (intOf kv).toNat)
    case atStart => exact ⟨0, none, 0, [], by omega, rfl, H2, PO, P1, P2, Lib.hid (World.ownsRow_nil _ _ _ _), Lib.hid Chunks.nil⟩
    case round =>
      rename World => wr
      clear H2 PO P1 P2
      obtain ⟨k, AF2, cf, ys, hk, rfl, hD, hbo, hb0, hb1, hown, hch⟩ := hrel
      have c0 := hb0.out.cell (j := 0) rfl
      have y1r := (hD.out.cell (p := ⟨bt, offt + tn * 2 + 1, none⟩) hbt).trans y1
      by_cases hkl : k < fl
      · obtain ⟨f, hf⟩ : ∃ f, ty.2[k]? = some f := ⟨_, List.getElem?_eq_getElem (by have := Hfl.out; omega)⟩
        obtain ⟨bf, offf, sx, tx, hAFe, hbf, z0, z1, z2, -, -, -, -, -⟩ := fld_at Hfs.out hf
        have hk0 : (0 : Int) ≤ (k : Int) := Int.natCast_nonneg k
        have hkf : (k : Int) < (fl : Int) := by omega
        have T1 := Lib.hid (fun W => rvlzero_any sx tx f.2.1 W)
        have Hch2 : Hid (Chunks 3 (fun cs x => ∀ S W, rVal S W cs x) (ys ++ [.int .i64 0, .string ⟨#[]⟩, .int .i64 (zeroV f.2.1).2.2]) ((ty.2.take (k + 1)).map fun f => zeroV f.2.1)) := Lib.hid (by
          rw [take_at hf, List.map_append]
          exact hch.out.append (Chunks.one (size := 3) rfl (fun S W => zero_val f.2.1)))
        have hlt := Lib.hid hown.out.lt
        clear hf hch
        subst hAFe
        have hsz : bo + 1 ≤ wr.heap.size := hbo.out.lt
        generalize (zeroV f.2.1).2.2 = zr at *
        generalize f.2.1 = kk at *
        go_wp2
        clear c0 y1r
        refine scl_start 16 [(0, true), (1, true), (2, true), (3, true), (4, true), (5, true), (6, true), (7, true), (8, true), (9, true), (10, true), (11, true), (12, false), (13, false), (14, false), (15, true), (16, false)] (fun W => Below w.heap.size w W ∧ Blk W bo 49 [.int .i64 nid, .int .i64 (tn : Int), .slice AF2 k cf] ∧ Blk W w.heap.size 28 [.slice (some ⟨bt, offt, none⟩) N c, .slice B M d, .slice C K e]) (by kernel_rfl) rfl (by kernel_rfl) (fun _ _ _ _ _ h => h) ⟨hD.out.drew, hbo.out, hb0.out⟩ (fun hH => ?_)
        repeat (first | (refine scl_yes (v := ?_) rfl rfl ?_ hH ?_; rotate_left; (focus ((rintro W ⟨hW, hbo, hb0⟩; have s0 := hbo.cell (j := 2) rfl; have s1 := hb0.cell (j := 0) rfl; have s2 := (hW.cell (p := ⟨bt, offt + tn * 2 + 1, none⟩) hbt).trans y1; have s3 := (hW.cell (p := ⟨bf, offf + k * 3, none⟩) hbf).trans z0; have s4 := (hW.cell (p := ⟨bf, offf + k * 3 + 1, none⟩) hbf).trans z1; have s5 := (hW.cell (p := ⟨bf, offf + k * 3 + 2, none⟩) hbf).trans z2; go_simp) <;> with_reducible rfl)); simp only [Act.put, List.setIfInBounds_toArray, List.set_cons_zero, List.set_cons_succ]) | (refine scl_no rfl rfl hH ?_; simp only [Act.put, List.setIfInBounds_toArray, List.set_cons_zero, List.set_cons_succ]))
        refine scl_call rfl rfl (fun K' hK' => ?_)
        go_wp2_with (go_at_call 37; refine (T1.out _).mono ?_; rintro e w4 ⟨rfl, hB4⟩)
        have hB4' : Below wr.heap.size wr w4 := ((Below.refl _ wr).drew).trans hB4
        have hS4 : Below w.heap.size w w4 ∧ Blk w4 bo 49 [.int .i64 nid, .int .i64 (tn : Int), .slice AF2 k cf] ∧ Blk w4 w.heap.size 28 [.slice (some ⟨bt, offt, none⟩) N c, .slice B M d, .slice C K e] := ⟨hD.out.trans (hB4'.mono hD.out.size), hbo.out.to hB4', hb0.out.to hB4'⟩
        refine hK'.out _ _ (fun _ => hS4) ?_
        clear hK' hH
        refine scl_call rfl rfl (fun K' hK' => ?_)
        go_wp2
        have hB5 : Below wr.heap.size wr (w4.alloc (.cells #[.int .i64 0, .string ⟨#[]⟩, .int .i64 zr] 30)) := hB4'.alloc hB4'.size _
        have hS5 : Below w.heap.size w (w4.alloc (.cells #[.int .i64 0, .string ⟨#[]⟩, .int .i64 zr] 30)) ∧ Blk (w4.alloc (.cells #[.int .i64 0, .string ⟨#[]⟩, .int .i64 zr] 30)) bo 49 [.int .i64 nid, .int .i64 (tn : Int), .slice AF2 k cf] ∧ Blk (w4.alloc (.cells #[.int .i64 0, .string ⟨#[]⟩, .int .i64 zr] 30)) w.heap.size 28 [.slice (some ⟨bt, offt, none⟩) N c, .slice B M d, .slice C K e] := ⟨hD.out.trans (hB5.mono hD.out.size), hbo.out.to hB5, hb0.out.to hB5⟩
        refine hK'.out _ _ (fun _ => hS5) ?_
        clear hK'
        refine scl_call rfl rfl (fun K' hK' => ?_)
        have hbx : Rd (w4.alloc (.cells #[.int .i64 0, .string ⟨#[]⟩, .int .i64 zr] 30)) (some ⟨w4.heap.size, 0, none⟩) [.int .i64 0, .string ⟨#[]⟩, .int .i64 zr] := (Blk.new w4 30 [.int .i64 0, .string ⟨#[]⟩, .int .i64 zr]).rd
        refine wp_apps (.tmp 66) (.tmp 78) 47 rfl (bo + 1) 30 i1 (.agg #[.int .i64 0, .string ⟨#[]⟩, .int .i64 0]) 3 32 Try.underlying47 hi1 hz01 hz11 hz21 rfl (by omega) (.slice AF2 k cf) k ys rfl (own_below hown.out hB5) (some ⟨w4.heap.size, 0, none⟩) 1 1 [.int .i64 0, .string ⟨#[]⟩, .int .i64 zr] rfl rfl hbx (by simp [Value.oneCell']) (by simp only [maxLen]; omega) (by omega) (Nat.le_trans hsz hB5.size) ?_
        intro v6 w6 hown6 hg6 hv6
        obtain ⟨A6, c6, rfl⟩ := own_slice3 hown6
        have hlt5 := fun b (e : (Value.slice AF2 k cf).ownBlock = some b) => hlt.out b e
        have b6 : Blk w6 bo 49 [.int .i64 nid, .int .i64 (tn : Int), .slice AF2 k cf] := (hg6.block _ hS5.2.1.lt (fun e => by have := (hlt5 _ e.symm).1; omega)).trans hS5.2.1
        have g6 : Blk w6 w.heap.size 28 [.slice (some ⟨bt, offt, none⟩) N c, .slice B M d, .slice C K e] := (hg6.block _ hS5.2.2.lt (fun e => by have := (hlt5 _ e.symm).1; omega)).trans hS5.2.2
        have z6 : Blk w6 (w.heap.size + 1) 28 [.slice none 0 0, .slice none 0 0, .slice none 0 0] := (hg6.block _ (hb1.out.to hB5).lt (fun e => by have := (hlt5 _ e.symm).1; omega)).trans (hb1.out.to hB5)
        have h6 : Below w.heap.size w w6 := hS5.1.grown hg6 hS5.1.size (fun b e => by have := (hlt5 b e).1; omega)
        refine hK'.out _ _ (fun _ => ⟨h6, b6, g6⟩) ?_
        clear hK'
        have hH := And.intro h6 (And.intro b6 g6)
        repeat (first | (refine scl_yes (v := ?_) rfl rfl ?_ hH ?_; rotate_left; (focus ((rintro W ⟨hW, hbo, hb0⟩; have s0 := hbo.cell (j := 2) rfl; have s1 := hb0.cell (j := 0) rfl; have s2 := (hW.cell (p := ⟨bt, offt + tn * 2 + 1, none⟩) hbt).trans y1; have s3 := (hW.cell (p := ⟨bf, offf + k * 3, none⟩) hbf).trans z0; have s4 := (hW.cell (p := ⟨bf, offf + k * 3 + 1, none⟩) hbf).trans z1; have s5 := (hW.cell (p := ⟨bf, offf + k * 3 + 2, none⟩) hbf).trans z2; go_simp) <;> with_reducible rfl)); simp only [Act.put, List.setIfInBounds_toArray, List.set_cons_zero, List.set_cons_succ]) | (refine scl_no rfl rfl hH ?_; simp only [Act.put, List.setIfInBounds_toArray, List.set_cons_zero, List.set_cons_succ]))
        refine scl_call rfl rfl (fun K' hK' => ?_)
        clear hH
        have Hown6 := Lib.hid hown6
        have H6 := Lib.hid h6
        have G6 := Lib.hid g6
        have Z6 := Lib.hid z6
        have B6 := Lib.hid b6
        have d2 := b6.cell (j := 2) rfl
        have f2 := b6.frozen 2
        clear hown6 h6 g6 z6 b6 hS4 hS5 hB4 hB4' hB5 hg6 hv6 hbx
        go_wp2
        refine hK'.out _ _ (fun h => absurd rfl h) ?_
        clear hK' d2 f2
        refine scl_done ?_
        have R6 := Lib.hid (B6.out.set 2 (.slice A6 (k + 1) c6))
        have N6 := Lib.hid (own_keep Hown6.out (w' := w6.setCell ⟨bo, 2, none⟩ (.slice A6 (k + 1) c6)) (fun b n1 n2 => keep_n (by omega)))
        have M6 := Lib.hid (G6.out.other ⟨bo, 2, none⟩ (.slice A6 (k + 1) c6) (by show w.heap.size ≠ bo; omega))
        have Y6 := Lib.hid (Z6.out.other ⟨bo, 2, none⟩ (.slice A6 (k + 1) c6) (by show w.heap.size + 1 ≠ bo; omega))
        have E6 := Lib.hid (H6.out.setCell (p := ⟨bo, 2, none⟩) (by show w.heap.size ≤ bo; omega) (.slice A6 (k + 1) c6))
        clear Hown6 H6 G6 Z6 B6
        go_wp2
        go_roundw
        case rel => exact ⟨k + 1, A6, c6, _, by omega, by go_num, E6, R6, M6, Y6, N6, Hch2⟩
        case measure => simp [intOf]; omega
      · obtain rfl : k = fl := by omega
        rw [List.take_of_length_le (by have := Hfl.out; omega)] at hch
        clear hkl hk
        go_wp2
        clear c0 y1r
        have hsz : bo + 1 ≤ wr.heap.size := hbo.out.lt
        have hlt := Lib.hid hown.out.lt
        go_cut [86] (fun v86 wx => ∃ (A9 : Option Addr) (c9 : Nat), v86 = .slice A9 (M + 1) c9 ∧ Hid (Below w.heap.size w wx) ∧ Hid (Blk wx w.heap.size 28 [.slice (some ⟨bt, offt, none⟩) N c, .slice A9 (M + 1) c9, .slice C K e]) ∧ Hid (Blk wx (w.heap.size + 1) 28 [.slice none 0 0, .slice none 0 0, .slice none 0 0]) ∧ Hid (wx.ownsRow wr.heap.size 49 3 (.slice A9 (M + 1) c9) (M + 1) (xs ++ [.int .i64 nid, .int .i64 (tn : Int), .slice AF2 k cf])) ∧ Hid (wx.ownsRow (bo + 1) 30 3 (.slice AF2 k cf) k ys))
        case first =>
          refine frl_start 7 (fun W => Below w.heap.size w W ∧ Blk W bo 49 [.int .i64 nid, .int .i64 (tn : Int), .slice AF2 k cf] ∧ Blk W w.heap.size 28 [.slice (some ⟨bt, offt, none⟩) N c, .slice B M d, .slice C K e]) 8 (by kernel_rfl) rfl (fun _ _ _ _ _ h => h) ⟨hD.out.drew, hbo.out, hb0.out⟩ (fun hH => ?_)
          have hBd : Below wr.heap.size wr wr.drew := (Below.refl _ wr).drew
          generalize wr.drew = wd at *
          (refine frl_yes 0 (v := ?_) rfl (by kernel_rfl) rfl ?_ hH ?_; rotate_left; (focus ((rintro W ⟨hW, hbo', hb0'⟩; have s0 := hb0'.cell (j := 1) rfl; have s1 := hbo'.cell (j := 0) rfl; have s2 := hbo'.cell (j := 1) rfl; have s3 := hbo'.cell (j := 2) rfl; go_simp) <;> with_reducible rfl)); simp only [Act.put, List.setIfInBounds_toArray, List.set_cons_zero, List.set_cons_succ]); (refine frl_yes 1 (v := ?_) rfl (by kernel_rfl) rfl ?_ hH ?_; rotate_left; (focus ((rintro W ⟨hW, hbo', hb0'⟩; have s0 := hb0'.cell (j := 1) rfl; have s1 := hbo'.cell (j := 0) rfl; have s2 := hbo'.cell (j := 1) rfl; have s3 := hbo'.cell (j := 2) rfl; go_simp) <;> with_reducible rfl)); simp only [Act.put, List.setIfInBounds_toArray, List.set_cons_zero, List.set_cons_succ]); (refine frl_yes 3 (v := ?_) rfl (by kernel_rfl) rfl ?_ hH ?_; rotate_left; (focus ((rintro W ⟨hW, hbo', hb0'⟩; have s0 := hb0'.cell (j := 1) rfl; have s1 := hbo'.cell (j := 0) rfl; have s2 := hbo'.cell (j := 1) rfl; have s3 := hbo'.cell (j := 2) rfl; go_simp) <;> with_reducible rfl)); simp only [Act.put, List.setIfInBounds_toArray, List.set_cons_zero, List.set_cons_succ])
          refine frl_op [2, 4] (by kernel_rfl) (by simp) ?_; intro jj hjj; simp only [List.mem_cons, List.not_mem_nil, or_false] at hjj; rcases hjj with rfl | rfl
          · refine ⟨_, rfl, rfl, fun KK hK => ?_⟩
            refine wp_apps (.const (.slice none 0 0)) (.tmp 82) 25 rfl wr.heap.size 49 i0 (.agg #[.int .i64 0, .int .i64 0, .slice none 0 0]) 3 40 Try.underlying25 hi hz0 hz1 hz2 rfl (by omega) (.slice none 0 0) 0 [] rfl (World.ownsRow_nil _ _ _ _) B M d xs rfl hxl (Hx.out.below (hD.out.trans (hBd.mono hD.out.size))) Hx1.out (by simp only [maxLen]; omega) (by omega) hBd.size ?_
            intro v5 w5 hown5 hg5 _
            rw [Nat.zero_add, List.nil_append] at hown5
            obtain ⟨A5, c5, rfl⟩ := own_slice3 hown5
            have hB5 : Below wr.heap.size wr w5 := hBd.grown hg5 hBd.size (fun b e => by simp [Value.ownBlock] at e)
            refine hK.out _ _ (fun _ => ⟨hD.out.trans (hB5.mono hD.out.size), hbo.out.to hB5, hb0.out.to hB5⟩) ?_
            clear hK hH
            have hH := And.intro (hD.out.trans (hB5.mono hD.out.size)) (And.intro (hbo.out.to hB5) (hb0.out.to hB5))
            refine frl_op [4] (by kernel_rfl) (by simp) ?_; intro jj hjj; simp only [List.mem_cons, List.not_mem_nil, or_false] at hjj; subst hjj; refine ⟨_, rfl, rfl, fun KK hK => ?_⟩
            go_wp2
            have hB6 : Below wr.heap.size wr (w5.alloc (.cells #[.int .i64 nid, .int .i64 (tn : Int), .slice AF2 k cf] 49)) := hB5.alloc hB5.size _
            have hS6 := And.intro (hD.out.trans (hB6.mono hD.out.size)) (And.intro (hbo.out.to hB6) (hb0.out.to hB6))
            refine hK.out _ _ (fun _ => hS6) ?_
            clear hK hH
            have hown6 := hown5.alloc (.cells #[.int .i64 nid, .int .i64 (tn : Int), .slice AF2 k cf] 49)
            have hbx : Rd (w5.alloc (.cells #[.int .i64 nid, .int .i64 (tn : Int), .slice AF2 k cf] 49)) (some ⟨w5.heap.size, 0, none⟩) [.int .i64 nid, .int .i64 (tn : Int), .slice AF2 k cf] := (Blk.new w5 49 [.int .i64 nid, .int .i64 (tn : Int), .slice AF2 k cf]).rd
            refine frl_op [5] (by kernel_rfl) (by simp) ?_; intro jj hjj; simp only [List.mem_cons, List.not_mem_nil, or_false] at hjj; subst hjj; refine ⟨_, rfl, rfl, fun KK hK => ?_⟩
            refine wp_apps (.tmp 83) (.tmp 85) 25 rfl wr.heap.size 49 i0 (.agg #[.int .i64 0, .int .i64 0, .slice none 0 0]) 3 40 Try.underlying25 hi hz0 hz1 hz2 rfl (by omega) (.slice A5 M c5) M xs rfl hown6 (some ⟨w5.heap.size, 0, none⟩) 1 1 [.int .i64 nid, .int .i64 (tn : Int), .slice AF2 k cf] rfl rfl hbx (by simp [Value.oneCell']) (by simp only [maxLen]; omega) (by omega) (Nat.le_trans (Nat.le_refl _) hB6.size) ?_
            intro v7 w7 hown7 hg7 _
            obtain ⟨A7, c7, rfl⟩ := own_slice3 hown7
            have hlt6 := hown6.lt
            have b7 : Blk w7 bo 49 [.int .i64 nid, .int .i64 (tn : Int), .slice AF2 k cf] := (hg7.block _ hS6.2.1.lt (fun e => by have := (hlt6 _ e.symm).1; omega)).trans hS6.2.1
            have g7 : Blk w7 w.heap.size 28 [.slice (some ⟨bt, offt, none⟩) N c, .slice B M d, .slice C K e] := (hg7.block _ hS6.2.2.lt (fun e => by have := (hlt6 _ e.symm).1; omega)).trans hS6.2.2
            have z7 : Blk w7 (w.heap.size + 1) 28 [.slice none 0 0, .slice none 0 0, .slice none 0 0] := (hg7.block _ (hb1.out.to hB6).lt (fun e => by have := (hlt6 _ e.symm).1; omega)).trans (hb1.out.to hB6)
            have h7 : Below w.heap.size w w7 := hS6.1.grown hg7 hS6.1.size (fun b e => by have := (hlt6 b e).1; omega)
            have f7 := own_at (own_below hown.out hB6) (w' := w7) (fun b e => hg7.block b (Nat.lt_of_lt_of_le (hlt.out b e).2 hB6.size) (fun e2 => by have h8 := (hlt6 b e2.symm).1; have h9 := (hlt.out b e).2; omega))
            have hH := And.intro h7 (And.intro b7 g7)
            refine hK.out _ _ (fun _ => hH) ?_
            clear hK
            (refine frl_yes 6 (v := ?_) rfl (by kernel_rfl) rfl ?_ hH ?_; rotate_left; (focus ((rintro W ⟨hW, hbo', hb0'⟩; have s0 := hb0'.cell (j := 1) rfl; have s1 := hbo'.cell (j := 0) rfl; have s2 := hbo'.cell (j := 1) rfl; have s3 := hbo'.cell (j := 2) rfl; go_simp) <;> with_reducible rfl)); simp only [Act.put, List.setIfInBounds_toArray, List.set_cons_zero, List.set_cons_succ])
            refine frl_op [7] (by kernel_rfl) (by simp) ?_; intro jj hjj; simp only [List.mem_cons, List.not_mem_nil, or_false] at hjj; subst hjj; refine ⟨_, rfl, rfl, fun KK hK => ?_⟩
            clear hH
            have Hown7 := Lib.hid hown7
            have H7 := Lib.hid h7
            have G7 := Lib.hid g7
            have Z7 := Lib.hid z7
            have F7 := Lib.hid f7
            have d1 := g7.cell (j := 1) rfl
            have f1 := g7.frozen 1
            clear hown7 h7 g7 z7 b7 f7 hS6 hB5 hB6 hg5 hg7 hown5 hown6 hbx hBd hlt6
            go_wp2
            refine hK.out _ _ (fun h => absurd rfl h) ?_
            clear hK d1 f1
            refine frl_done (by kernel_rfl) ?_
            have R7 := Lib.hid (G7.out.set 1 (.slice A7 (M + 1) c7))
            have Y7 := Lib.hid (Z7.out.other ⟨w.heap.size, 1, none⟩ (.slice A7 (M + 1) c7) (by simp))
            have N7 := Lib.hid (own_keep Hown7.out (w' := w7.setCell ⟨w.heap.size, 1, none⟩ (.slice A7 (M + 1) c7)) (fun b n1 n2 => keep_n (by omega)))
            have V7 := Lib.hid (own_keep F7.out (w' := w7.setCell ⟨w.heap.size, 1, none⟩ (.slice A7 (M + 1) c7)) (fun b n1 n2 => keep_n (by omega)))
            have E7 := Lib.hid (H7.out.setCell (p := ⟨w.heap.size, 1, none⟩) (Nat.le_refl _) (.slice A7 (M + 1) c7))
            clear Hown7 H7 G7 Z7 F7
            go_wp2
            go_meet
            case rel => exact ⟨A7, c7, rfl, E7, R7, Y7, N7, V7⟩
          · refine ⟨_, rfl, rfl, fun KK hK => ?_⟩
            go_wp2
            have hB5 : Below wr.heap.size wr (wd.alloc (.cells #[.int .i64 nid, .int .i64 (tn : Int), .slice AF2 k cf] 49)) := hBd.alloc hBd.size _
            have hS5 := And.intro (hD.out.trans (hB5.mono hD.out.size)) (And.intro (hbo.out.to hB5) (hb0.out.to hB5))
            have px := Blk.new wd 49 [.int .i64 nid, .int .i64 (tn : Int), .slice AF2 k cf]
            refine hK.out _ _ (fun _ => hS5) ?_
            clear hK hH
            have hlx : wr.heap.size ≤ wd.heap.size := hBd.size
            generalize wd.alloc (.cells #[.int .i64 nid, .int .i64 (tn : Int), .slice AF2 k cf] 49) = w5 at *
            generalize wd.heap.size = gx at *
            refine frl_op [2] (by kernel_rfl) (by simp) ?_; intro jj hjj; simp only [List.mem_cons, List.not_mem_nil, or_false] at hjj; subst hjj; refine ⟨_, rfl, rfl, fun KK hK => ?_⟩
            refine wp_apps (.const (.slice none 0 0)) (.tmp 82) 25 rfl wr.heap.size 49 i0 (.agg #[.int .i64 0, .int .i64 0, .slice none 0 0]) 3 40 Try.underlying25 hi hz0 hz1 hz2 rfl (by omega) (.slice none 0 0) 0 [] rfl (World.ownsRow_nil _ _ _ _) B M d xs rfl hxl (Hx.out.below (hD.out.trans (hB5.mono hD.out.size))) Hx1.out (by simp only [maxLen]; omega) (by omega) hB5.size ?_
            intro v5 w6 hown5 hg5 _
            rw [Nat.zero_add, List.nil_append] at hown5
            obtain ⟨A5, c5, rfl⟩ := own_slice3 hown5
            have hB56 : Below w5.heap.size w5 w6 := (Below.refl _ w5).grown hg5 (Nat.le_refl _) (fun b e => by simp [Value.ownBlock] at e)
            have hB6 : Below wr.heap.size wr w6 := hB5.trans (hB56.mono hB5.size)
            have hS6 := And.intro (hD.out.trans (hB6.mono hD.out.size)) (And.intro (hbo.out.to hB6) (hb0.out.to hB6))
            refine hK.out _ _ (fun _ => hS6) ?_
            clear hK
            have hbx := (px.to hB56).rd
            refine frl_op [5] (by kernel_rfl) (by simp) ?_; intro jj hjj; simp only [List.mem_cons, List.not_mem_nil, or_false] at hjj; subst hjj; refine ⟨_, rfl, rfl, fun KK hK => ?_⟩
            refine wp_apps (.tmp 83) (.tmp 85) 25 rfl wr.heap.size 49 i0 (.agg #[.int .i64 0, .int .i64 0, .slice none 0 0]) 3 40 Try.underlying25 hi hz0 hz1 hz2 rfl (by omega) (.slice A5 M c5) M xs rfl hown5 (some ⟨gx, 0, none⟩) 1 1 [.int .i64 nid, .int .i64 (tn : Int), .slice AF2 k cf] rfl rfl hbx (by simp [Value.oneCell']) (by simp only [maxLen]; omega) (by omega) hB6.size ?_
            intro v7 w7 hown7 hg7 _
            obtain ⟨A7, c7, rfl⟩ := own_slice3 hown7
            have hlt6 := hown5.lt
            have b7 : Blk w7 bo 49 [.int .i64 nid, .int .i64 (tn : Int), .slice AF2 k cf] := (hg7.block _ hS6.2.1.lt (fun e => by have := (hlt6 _ e.symm).1; omega)).trans hS6.2.1
            have g7 : Blk w7 w.heap.size 28 [.slice (some ⟨bt, offt, none⟩) N c, .slice B M d, .slice C K e] := (hg7.block _ hS6.2.2.lt (fun e => by have := (hlt6 _ e.symm).1; omega)).trans hS6.2.2
            have z7 : Blk w7 (w.heap.size + 1) 28 [.slice none 0 0, .slice none 0 0, .slice none 0 0] := (hg7.block _ (hb1.out.to hB6).lt (fun e => by have := (hlt6 _ e.symm).1; omega)).trans (hb1.out.to hB6)
            have h7 : Below w.heap.size w w7 := hS6.1.grown hg7 hS6.1.size (fun b e => by have := (hlt6 b e).1; omega)
            have f7 := own_at (own_below hown.out hB6) (w' := w7) (fun b e => hg7.block b (Nat.lt_of_lt_of_le (hlt.out b e).2 hB6.size) (fun e2 => by have h8 := (hlt6 b e2.symm).1; have h9 := (hlt.out b e).2; omega))
            have hH := And.intro h7 (And.intro b7 g7)
            refine hK.out _ _ (fun _ => hH) ?_
            clear hK
            (refine frl_yes 6 (v := ?_) rfl (by kernel_rfl) rfl ?_ hH ?_; rotate_left; (focus ((rintro W ⟨hW, hbo', hb0'⟩; have s0 := hb0'.cell (j := 1) rfl; have s1 := hbo'.cell (j := 0) rfl; have s2 := hbo'.cell (j := 1) rfl; have s3 := hbo'.cell (j := 2) rfl; go_simp) <;> with_reducible rfl)); simp only [Act.put, List.setIfInBounds_toArray, List.set_cons_zero, List.set_cons_succ])
            refine frl_op [7] (by kernel_rfl) (by simp) ?_; intro jj hjj; simp only [List.mem_cons, List.not_mem_nil, or_false] at hjj; subst hjj; refine ⟨_, rfl, rfl, fun KK hK => ?_⟩
            clear hH
            have Hown7 := Lib.hid hown7
            have H7 := Lib.hid h7
            have G7 := Lib.hid g7
            have Z7 := Lib.hid z7
            have F7 := Lib.hid f7
            have d1 := g7.cell (j := 1) rfl
            have f1 := g7.frozen 1
            clear hown7 h7 g7 z7 b7 f7 hS5 hS6 hB5 hB56 hB6 hg5 hg7 hown5 hbx hBd hlt6 px
            go_wp2
            refine hK.out _ _ (fun h => absurd rfl h) ?_
            clear hK d1 f1
            refine frl_done (by kernel_rfl) ?_
            have R7 := Lib.hid (G7.out.set 1 (.slice A7 (M + 1) c7))
            have Y7 := Lib.hid (Z7.out.other ⟨w.heap.size, 1, none⟩ (.slice A7 (M + 1) c7) (by simp))
            have N7 := Lib.hid (own_keep Hown7.out (w' := w7.setCell ⟨w.heap.size, 1, none⟩ (.slice A7 (M + 1) c7)) (fun b n1 n2 => keep_n (by omega)))
            have V7 := Lib.hid (own_keep F7.out (w' := w7.setCell ⟨w.heap.size, 1, none⟩ (.slice A7 (M + 1) c7)) (fun b n1 n2 => keep_n (by omega)))
            have E7 := Lib.hid (H7.out.setCell (p := ⟨w.heap.size, 1, none⟩) (Nat.le_refl _) (.slice A7 (M + 1) c7))
            clear Hown7 H7 G7 Z7 F7
            go_wp2
            go_meet
            case rel => exact ⟨A7, c7, rfl, E7, R7, Y7, N7, V7⟩
        case rest =>
          obtain ⟨A9, c9, rfl, E9, R9, Y9, N9, V9⟩ := hcut
          have x0 := R9.out.cell (j := 0) rfl
          have x1 := R9.out.cell (j := 1) rfl
          have x2 := R9.out.cell (j := 2) rfl
          have y0 := Y9.out.cell (j := 0) rfl
          have yy1 := Y9.out.cell (j := 1) rfl
          have y2 := Y9.out.cell (j := 2) rfl
          have g0 := Y9.out.frozen 0
          have g1 := Y9.out.frozen 1
          have g2 := Y9.out.frozen 2
          go_wp2
          have P9 := ((Y9.out.set 0 (.slice (some ⟨bt, offt, none⟩) N c)).set 1 (.slice A9 (M + 1) c9)).set 2 (.slice C K e)
          refine ret_cell2 (d := .struct _) (cs := [.slice (some ⟨bt, offt, none⟩) N c, .slice A9 (M + 1) c9, .slice C K e]) rfl P9 rfl rfl rfl rfl rfl ?_
          have hBz := ((E9.out.setCell (p := ⟨w.heap.size + 1, 0, none⟩) (by simp) (.slice (some ⟨bt, offt, none⟩) N c)).setCell (p := ⟨w.heap.size + 1, 1, none⟩) (by simp) (.slice A9 (M + 1) c9)).setCell (p := ⟨w.heap.size + 1, 2, none⟩) (by simp) (.slice C K e)
          have hO9 := own_keep N9.out (w' := ((wc.setCell ⟨w.heap.size + 1, 0, none⟩ (.slice (some ⟨bt, offt, none⟩) N c)).setCell ⟨w.heap.size + 1, 1, none⟩ (.slice A9 (M + 1) c9)).setCell ⟨w.heap.size + 1, 2, none⟩ (.slice C K e)) (fun b n1 n2 => by rw [keep_n (by omega), keep_n (by omega), keep_n (by omega)])
          have hF9 := own_keep V9.out (w' := ((wc.setCell ⟨w.heap.size + 1, 0, none⟩ (.slice (some ⟨bt, offt, none⟩) N c)).setCell ⟨w.heap.size + 1, 1, none⟩ (.slice A9 (M + 1) c9)).setCell ⟨w.heap.size + 1, 2, none⟩ (.slice C K e)) (fun b n1 n2 => by rw [keep_n (by omega), keep_n (by omega), keep_n (by omega)])
          have hrd := new_graph hBz Hh.out hO9 hF9 (fun b e => (hlt.out b e).2) (by omega) Hxc.out hch.out (by rw [List.length_map]; exact Hfl.out) Hid64.out ht64
          rw [Hg9.out, Hi9.out, Hr.out]
          refine ⟨some ⟨bt, offt, none⟩, c, A9, c9, C, e, ?_, ?_, hBz⟩
          · simp only [List.length_append, List.length_singleton]
            rw [HN.out, HM.out, HK.out]
            rfl
          · simp only [List.length_append, List.length_singleton]
            rw [HN.out, HM.out, HK.out]
            exact hrd
end Go.Proofs.Ytembafogbfcajaa

/- GraphTells: any graph may be, or not, comes to the ids, is swept, and has a new object, a field set, and a root, as the document says; two are the same, or not. (Written by a program.) Condition of the walk: texts of the first graph of at most 1048576 bytes, which the row's second form has. -/
namespace Go.Proofs.Ytembafogbfcajaa
open Go.RowKit

/-- Texts that are short. -/
def shortG (g : Gr) : Prop := (∀ t ∈ g.1, t.1.length ≤ 1048576 ∧ ∀ f ∈ t.2, f.1.length ≤ 1048576 ∧ True ∧ f.2.2.length ≤ 1048576) ∧ (∀ o ∈ g.2.1, True ∧ True ∧ ∀ v ∈ o.2.2, True ∧ v.2.1.length ≤ 1048576 ∧ True) ∧ ∀ n ∈ g.2.2, True
theorem short_tame {g : Gr} (hf : fewG g = true) (h : shortG g) : tameG g ∧ tameS g.1 := by
  obtain ⟨h1, h2, -⟩ := h
  simp only [fewG, fewS, Bool.and_eq_true, decide_eq_true_eq, List.all_eq_true] at hf
  obtain ⟨⟨⟨⟨f1, f2⟩, f3⟩, f4⟩, f5⟩ := hf
  refine ⟨⟨⟨by omega, fun t ht => ?_⟩, ⟨by omega, fun o ho => ?_⟩, by omega⟩, fun t ht => ⟨(h1 t ht).1, fun f hf => ((h1 t ht).2 f hf).1⟩⟩
  · obtain ⟨a, b⟩ := h1 t ht
    have := f1 t ht
    refine ⟨by omega, by omega, fun f hf => ?_⟩
    obtain ⟨c, -, d⟩ := b f hf
    exact ⟨by omega, by omega⟩
  · obtain ⟨-, -, a⟩ := h2 o ho
    have := f5 o ho
    exact ⟨by omega, fun v hv => by have := (a v hv).2.1; omega⟩
theorem vtell_arg {w : World} {cs : Array Value} {v : Vl} (h : rVal (All w) w cs.toList v) : ∃ s : ByteArray, cs = #[.int .i64 v.1, .string s, .int .i64 v.2.2] ∧ byt s = v.2.1 ∧ (-9223372036854775808 ≤ v.1 ∧ v.1 ≤ 9223372036854775807) ∧ (-9223372036854775808 ≤ v.2.2 ∧ v.2.2 ≤ 9223372036854775807) := by
  obtain ⟨s, h1, h2, -, h4, h5⟩ := rVal_open h
  exact ⟨s, by cases cs; simpa using h1, h2, h4, h5⟩

set_option maxRecDepth 100000 in
set_option maxHeartbeats 8000000 in
theorem graphTells_walk (w : World) (cs : Array Value) (g : Gr) (h : rGr (All w) w cs.toList g) (hshort : shortG g) (cs1 : Array Value) (g1 : Gr) (hh : rGr (All w) w cs1.toList g1) (id : Int) (hd0 : -9223372036854775808 ≤ id) (hd1 : id ≤ 9223372036854775807) (k : Int) (hk0 : -9223372036854775808 ≤ k) (hk1 : k ≤ 9223372036854775807) (vs : Array Value) (v : Vl) (hvv : rVal (All w) w vs.toList v) :
    Calls Try.prog 3 #[.agg cs, .agg cs1, .int .i64 id, .int .i64 k, .agg vs] w fun e w' => e = .returned (.bool true) ∧ Below w.heap.size w w' := by
  obtain ⟨A, c, B, d, C, e, rfl, h⟩ := gr_arg h
  obtain ⟨A1, c1, B1, d1, C1, e1, rfl, hh⟩ := gr_arg hh
  obtain ⟨s, rfl, hs, hv1, hv2⟩ := vtell_arg hvv
  have hid : (Lit.int .i64 id).wf = true := WalkArith.wf_i64 ⟨hd0, hd1⟩
  have hkk : (Lit.int .i64 k).wf = true := WalkArith.wf_i64 ⟨hk0, hk1⟩
  generalize hN : g.1.length = N at *
  generalize hM : g.2.1.length = M at *
  generalize hKl : g.2.2.length = Kr at *
  generalize hN1 : g1.1.length = N1 at *
  generalize hM1 : g1.2.1.length = M1 at *
  generalize hK1 : g1.2.2.length = K1 at *
  clear hN hM hKl hN1 hM1 hK1
  have hB0 : Below w.heap.size w (((w.alloc (.cells #[.slice A N c, .slice B M d, .slice C Kr e] 28)).alloc (.cells #[.slice A1 N1 c1, .slice B1 M1 d1, .slice C1 K1 e1] 28)).alloc (.cells #[.int .i64 v.1, .string s, .int .i64 v.2.2] 30)) := (((Below.refl _ w).alloc (Nat.le_refl _) _).alloc (by simp) _).alloc (by simp; omega) _
  obtain ⟨p1, ph, pv⟩ := blk_three w 28 28 30 [.slice A N c, .slice B M d, .slice C Kr e] [.slice A1 N1 c1, .slice B1 M1 d1, .slice C1 K1 e1] [.int .i64 v.1, .string s, .int .i64 v.2.2]
  have TF := Lib.hid (fun W (hW : Below w.heap.size w W) => gfew_any A B C N c M d Kr e g W (gr_below hW h))
  have TA := Lib.hid (fun W (hW : Below w.heap.size w W) => gfew_any A1 B1 C1 N1 c1 M1 d1 K1 e1 g1 W (gr_below hW hh))
  have Hshort := Lib.hid (fun hf => short_tame (g := g) hf hshort)
  have Hg := Lib.hid (fun W (hW : Below w.heap.size w W) => gr_below hW h)
  have Hh := Lib.hid (fun W (hW : Below w.heap.size w W) => gr_below hW hh)
  have HB0 := Lib.hid hB0
  have Hs := Lib.hid hs
  have Hw1 := Lib.hid (WalkArith.wf_i64 hv1)
  have Hw2 := Lib.hid (WalkArith.wf_i64 hv2)
  clear hB0 h hh hvv hs hv1 hv2 hshort hd0 hd1 hk0 hk1
  generalize hfew : fewG g = few at *
  generalize fewG g1 = also at *
  go_enter Try.func3, Try.ntmps3
  have P1 := Lib.hid p1
  have PH := Lib.hid ph
  have PV := Lib.hid pv
  clear p1 ph pv
  go_wp2_with fail
  refine (gawake_any _).mono ?_
  rintro e w1 ⟨rfl, hX⟩
  have HB := Lib.hid (HB0.out.trans (hX.mono HB0.out.size))
  clear HB0
  replace P1 := Lib.hid (P1.out.to hX)
  replace PH := Lib.hid (PH.out.to hX)
  replace PV := Lib.hid (PV.out.to hX)
  clear hX
  have a0 := P1.out.cell (j := 0) rfl
  have a1 := P1.out.cell (j := 1) rfl
  have a2 := P1.out.cell (j := 2) rfl
  go_wp2_with fail
  refine (TF.out _ HB.out).mono ?_
  rintro e w2 ⟨rfl, hX⟩
  replace HB := Lib.hid (HB.out.trans (hX.mono HB.out.size))
  replace P1 := Lib.hid (P1.out.to hX)
  replace PH := Lib.hid (PH.out.to hX)
  replace PV := Lib.hid (PV.out.to hX)
  clear hX a0 a1 a2 TF
  have a0 := PH.out.cell (j := 0) rfl
  have a1 := PH.out.cell (j := 1) rfl
  have a2 := PH.out.cell (j := 2) rfl
  go_wp2_with fail
  refine (TA.out _ HB.out).mono ?_
  rintro e w3 ⟨rfl, hX⟩
  replace HB := Lib.hid (HB.out.trans (hX.mono HB.out.size))
  replace P1 := Lib.hid (P1.out.to hX)
  replace PH := Lib.hid (PH.out.to hX)
  replace PV := Lib.hid (PV.out.to hX)
  clear hX a0 a1 a2 TA
  cases few
  · go_wp2
    go_ret
    exact ⟨rfl, HB.out⟩
  cases also
  · go_wp2
    go_ret
    exact ⟨rfl, HB.out⟩
  obtain ⟨htg, hts⟩ := Hshort.out rfl
  clear Hshort hfew
  have T1 := Lib.hid (fun W (hW : Below w.heap.size w W) => gnew_any A B C N c M d Kr e g k W (Hg.out W hW) htg hkk)
  have T2 := Lib.hid (fun W (hW : Below w.heap.size w W) => rnew_any A B C N c M d Kr e g k W (Hg.out W hW) hts hkk)
  have T3 := Lib.hid (fun W (hW : Below w.heap.size w W) => gset_any A B C N c M d Kr e g id k s v W (Hg.out W hW) htg Hs.out Hw1.out Hw2.out)
  have T4 := Lib.hid (fun W (hW : Below w.heap.size w W) => rset_any A B C N c M d Kr e g id k s v W (Hg.out W hW) hts Hs.out Hw1.out Hw2.out)
  have T5 := Lib.hid (fun W (hW : Below w.heap.size w W) => groot_any A B C N c M d Kr e g k id W (Hg.out W hW) htg hid)
  have T6 := Lib.hid (fun W (hW : Below w.heap.size w W) => rroot_any A B C N c M d Kr e g k id W (Hg.out W hW) hts hid)
  have U1 := Lib.hid (fun W (hW : Below w.heap.size w W) => gsweep_any A B C N c M d Kr e g W (Hg.out W hW))
  have U2 := Lib.hid (fun W (hW : Below w.heap.size w W) => rsweep_any A B C N c M d Kr e g W (Hg.out W hW) hts)
  have U3 := Lib.hid (fun W (hW : Below w.heap.size w W) => greach_any A B C N c M d Kr e g W (Hg.out W hW))
  have U4 := Lib.hid (fun W (hW : Below w.heap.size w W) => rreach_any A B C N c M d Kr e g W (Hg.out W hW) hts)
  have U5 := Lib.hid (fun W (hW : Below w.heap.size w W) => rgmay_any A B C N c M d Kr e g W (Hg.out W hW) hts)
  have U6 := Lib.hid (fun W (hW : Below w.heap.size w W) => gmay_any A B C N c M d Kr e g W (Hg.out W hW))
  have U7 := Lib.hid (fun W (hW : Below w.heap.size w W) => rgsame_any A B C N c M d Kr e A1 B1 C1 N1 c1 M1 d1 K1 e1 g g1 W (Hg.out W hW) (Hh.out W hW))
  have U8 := Lib.hid (fun W (hW : Below w.heap.size w W) => gsame_any A B C N c M d Kr e A1 B1 C1 N1 c1 M1 d1 K1 e1 g g1 W (Hg.out W hW) (Hh.out W hW))
  have U9 := Lib.hid (fun W (hW : Below w.heap.size w W) => gfind_any A B C N c M d Kr e g id W (Hg.out W hW))
  have U0 := Lib.hid (fun W (hW : Below w.heap.size w W) => rgfind_any A B C N c M d Kr e g id W (Hg.out W hW))
  clear htg hts Hg Hh Hs Hw1 Hw2 hid hkk
  generalize newG g k = gn at *
  generalize newI g k = ni at *
  generalize newE g k = ne at *
  generalize setN g id k v = gs at *
  generalize setE g id k v = se at *
  generalize rootN g k id = gr at *
  generalize rootE g k id = re at *
  generalize sweepG g = gw at *
  generalize reachG g = R at *
  generalize mayG g = mb at *
  generalize decide (g = g1) = sb at *
  generalize findG g.2.1 id = fx at *
  generalize v.1 = n1 at *
  generalize v.2.2 = n2 at *
  have a0 := P1.out.cell (j := 0) rfl
  have a1 := P1.out.cell (j := 1) rfl
  have a2 := P1.out.cell (j := 2) rfl
  go_wp2_with fail
  refine (T1.out _ HB.out).mono ?_
  rintro e w4 ⟨X0, x0, Y0, y0, Z0, z0, rfl, hr, hB⟩
  have hBa : Below w4.heap.size w4 (w4.alloc (.cells #[.slice X0 gn.1.length x0, .slice Y0 gn.2.1.length y0, .slice Z0 gn.2.2.length z0] 28)) := (Below.refl _ w4).alloc (Nat.le_refl _) _
  have hX := hB.trans (hBa.mono hB.size)
  replace HB := Lib.hid (HB.out.trans (hX.mono HB.out.size))
  replace P1 := Lib.hid (P1.out.to hX)
  replace PH := Lib.hid (PH.out.to hX)
  replace PV := Lib.hid (PV.out.to hX)
  have Ba := Lib.hid (Blk.new w4 28 [.slice X0 gn.1.length x0, .slice Y0 gn.2.1.length y0, .slice Z0 gn.2.2.length z0])
  have Ra := Lib.hid (gr_below hBa hr)
  clear a0 a1 a2 hr hB hBa hX T1
  have a0 := P1.out.cell (j := 0) rfl
  have a1 := P1.out.cell (j := 1) rfl
  have a2 := P1.out.cell (j := 2) rfl
  go_wp2_with fail
  refine (T2.out _ HB.out).mono ?_
  rintro e w5 ⟨X1, x1, Y1, y1, Z1, z1, rfl, hr, hB⟩
  have hBa : Below w5.heap.size w5 (w5.alloc (.cells #[.slice X1 gn.1.length x1, .slice Y1 gn.2.1.length y1, .slice Z1 gn.2.2.length z1] 28)) := (Below.refl _ w5).alloc (Nat.le_refl _) _
  have hX := hB.trans (hBa.mono hB.size)
  replace HB := Lib.hid (HB.out.trans (hX.mono HB.out.size))
  replace P1 := Lib.hid (P1.out.to hX)
  replace PH := Lib.hid (PH.out.to hX)
  replace PV := Lib.hid (PV.out.to hX)
  replace Ba := Lib.hid (Ba.out.to hX)
  replace Ra := Lib.hid (gr_below hX Ra.out)
  have Bb := Lib.hid (Blk.new w5 28 [.slice X1 gn.1.length x1, .slice Y1 gn.2.1.length y1, .slice Z1 gn.2.2.length z1])
  have Rb := Lib.hid (gr_below hBa hr)
  clear a0 a1 a2 hr hB hBa hX T2
  have a0 := P1.out.cell (j := 0) rfl
  have a1 := P1.out.cell (j := 1) rfl
  have a2 := P1.out.cell (j := 2) rfl
  have vc0 := PV.out.cell (j := 0) rfl
  have vc1 := PV.out.cell (j := 1) rfl
  have vc2 := PV.out.cell (j := 2) rfl
  go_wp2_with fail
  refine (T3.out _ HB.out).mono ?_
  rintro e w6 ⟨X2, x2, Y2, y2, Z2, z2, rfl, hr, hB⟩
  have hBa : Below w6.heap.size w6 (w6.alloc (.cells #[.slice X2 gs.1.length x2, .slice Y2 gs.2.1.length y2, .slice Z2 gs.2.2.length z2] 28)) := (Below.refl _ w6).alloc (Nat.le_refl _) _
  have hX := hB.trans (hBa.mono hB.size)
  replace HB := Lib.hid (HB.out.trans (hX.mono HB.out.size))
  replace P1 := Lib.hid (P1.out.to hX)
  replace PH := Lib.hid (PH.out.to hX)
  replace PV := Lib.hid (PV.out.to hX)
  replace Ba := Lib.hid (Ba.out.to hX)
  replace Ra := Lib.hid (gr_below hX Ra.out)
  replace Bb := Lib.hid (Bb.out.to hX)
  replace Rb := Lib.hid (gr_below hX Rb.out)
  have Bc := Lib.hid (Blk.new w6 28 [.slice X2 gs.1.length x2, .slice Y2 gs.2.1.length y2, .slice Z2 gs.2.2.length z2])
  have Rc := Lib.hid (gr_below hBa hr)
  clear a0 a1 a2 vc0 vc1 vc2 hr hB hBa hX T3
  have a0 := P1.out.cell (j := 0) rfl
  have a1 := P1.out.cell (j := 1) rfl
  have a2 := P1.out.cell (j := 2) rfl
  have vc0 := PV.out.cell (j := 0) rfl
  have vc1 := PV.out.cell (j := 1) rfl
  have vc2 := PV.out.cell (j := 2) rfl
  go_wp2_with fail
  refine (T4.out _ HB.out).mono ?_
  rintro e w7 ⟨X3, x3, Y3, y3, Z3, z3, rfl, hr, hB⟩
  have hBa : Below w7.heap.size w7 (w7.alloc (.cells #[.slice X3 gs.1.length x3, .slice Y3 gs.2.1.length y3, .slice Z3 gs.2.2.length z3] 28)) := (Below.refl _ w7).alloc (Nat.le_refl _) _
  have hX := hB.trans (hBa.mono hB.size)
  replace HB := Lib.hid (HB.out.trans (hX.mono HB.out.size))
  replace P1 := Lib.hid (P1.out.to hX)
  replace PH := Lib.hid (PH.out.to hX)
  replace PV := Lib.hid (PV.out.to hX)
  replace Ba := Lib.hid (Ba.out.to hX)
  replace Ra := Lib.hid (gr_below hX Ra.out)
  replace Bb := Lib.hid (Bb.out.to hX)
  replace Rb := Lib.hid (gr_below hX Rb.out)
  replace Bc := Lib.hid (Bc.out.to hX)
  replace Rc := Lib.hid (gr_below hX Rc.out)
  have Bd := Lib.hid (Blk.new w7 28 [.slice X3 gs.1.length x3, .slice Y3 gs.2.1.length y3, .slice Z3 gs.2.2.length z3])
  have Rd := Lib.hid (gr_below hBa hr)
  clear a0 a1 a2 vc0 vc1 vc2 hr hB hBa hX T4
  have a0 := P1.out.cell (j := 0) rfl
  have a1 := P1.out.cell (j := 1) rfl
  have a2 := P1.out.cell (j := 2) rfl
  go_wp2_with fail
  refine (T5.out _ HB.out).mono ?_
  rintro e w8 ⟨X4, x4, Y4, y4, Z4, z4, rfl, hr, hB⟩
  have hBa : Below w8.heap.size w8 (w8.alloc (.cells #[.slice X4 gr.1.length x4, .slice Y4 gr.2.1.length y4, .slice Z4 gr.2.2.length z4] 28)) := (Below.refl _ w8).alloc (Nat.le_refl _) _
  have hX := hB.trans (hBa.mono hB.size)
  replace HB := Lib.hid (HB.out.trans (hX.mono HB.out.size))
  replace P1 := Lib.hid (P1.out.to hX)
  replace PH := Lib.hid (PH.out.to hX)
  replace PV := Lib.hid (PV.out.to hX)
  replace Ba := Lib.hid (Ba.out.to hX)
  replace Ra := Lib.hid (gr_below hX Ra.out)
  replace Bb := Lib.hid (Bb.out.to hX)
  replace Rb := Lib.hid (gr_below hX Rb.out)
  replace Bc := Lib.hid (Bc.out.to hX)
  replace Rc := Lib.hid (gr_below hX Rc.out)
  replace Bd := Lib.hid (Bd.out.to hX)
  replace Rd := Lib.hid (gr_below hX Rd.out)
  have Bp := Lib.hid (Blk.new w8 28 [.slice X4 gr.1.length x4, .slice Y4 gr.2.1.length y4, .slice Z4 gr.2.2.length z4])
  have Rp := Lib.hid (gr_below hBa hr)
  clear a0 a1 a2 hr hB hBa hX T5
  have a0 := P1.out.cell (j := 0) rfl
  have a1 := P1.out.cell (j := 1) rfl
  have a2 := P1.out.cell (j := 2) rfl
  go_wp2_with fail
  refine (T6.out _ HB.out).mono ?_
  rintro e w9 ⟨X5, x5, Y5, y5, Z5, z5, rfl, hr, hB⟩
  have hBa : Below w9.heap.size w9 (w9.alloc (.cells #[.slice X5 gr.1.length x5, .slice Y5 gr.2.1.length y5, .slice Z5 gr.2.2.length z5] 28)) := (Below.refl _ w9).alloc (Nat.le_refl _) _
  have hX := hB.trans (hBa.mono hB.size)
  replace HB := Lib.hid (HB.out.trans (hX.mono HB.out.size))
  replace P1 := Lib.hid (P1.out.to hX)
  replace PH := Lib.hid (PH.out.to hX)
  replace PV := Lib.hid (PV.out.to hX)
  replace Ba := Lib.hid (Ba.out.to hX)
  replace Ra := Lib.hid (gr_below hX Ra.out)
  replace Bb := Lib.hid (Bb.out.to hX)
  replace Rb := Lib.hid (gr_below hX Rb.out)
  replace Bc := Lib.hid (Bc.out.to hX)
  replace Rc := Lib.hid (gr_below hX Rc.out)
  replace Bd := Lib.hid (Bd.out.to hX)
  replace Rd := Lib.hid (gr_below hX Rd.out)
  replace Bp := Lib.hid (Bp.out.to hX)
  replace Rp := Lib.hid (gr_below hX Rp.out)
  have Bq := Lib.hid (Blk.new w9 28 [.slice X5 gr.1.length x5, .slice Y5 gr.2.1.length y5, .slice Z5 gr.2.2.length z5])
  have Rq := Lib.hid (gr_below hBa hr)
  clear a0 a1 a2 hr hB hBa hX T6
  have V0 := Lib.hid (rgsame_any X0 Y0 Z0 gn.1.length x0 gn.2.1.length y0 gn.2.2.length z0 X1 Y1 Z1 gn.1.length x1 gn.2.1.length y1 gn.2.2.length z1 gn gn _ Ra.out Rb.out)
  rw [decide_eq_true rfl] at V0
  have a0 := Ba.out.cell (j := 0) rfl
  have a1 := Ba.out.cell (j := 1) rfl
  have a2 := Ba.out.cell (j := 2) rfl
  have b0 := Bb.out.cell (j := 0) rfl
  have b1 := Bb.out.cell (j := 1) rfl
  have b2 := Bb.out.cell (j := 2) rfl
  go_wp2_with fail
  refine V0.out.mono ?_
  rintro e w10 ⟨rfl, hX⟩
  replace HB := Lib.hid (HB.out.trans (hX.mono HB.out.size))
  clear Ba Bb Ra Rb V0 a0 a1 a2 b0 b1 b2
  replace P1 := Lib.hid (P1.out.to hX)
  replace PH := Lib.hid (PH.out.to hX)
  replace PV := Lib.hid (PV.out.to hX)
  replace Bc := Lib.hid (Bc.out.to hX)
  replace Rc := Lib.hid (gr_below hX Rc.out)
  replace Bd := Lib.hid (Bd.out.to hX)
  replace Rd := Lib.hid (gr_below hX Rd.out)
  replace Bp := Lib.hid (Bp.out.to hX)
  replace Rp := Lib.hid (gr_below hX Rp.out)
  replace Bq := Lib.hid (Bq.out.to hX)
  replace Rq := Lib.hid (gr_below hX Rq.out)
  clear hX
  have V1 := Lib.hid (rgsame_any X2 Y2 Z2 gs.1.length x2 gs.2.1.length y2 gs.2.2.length z2 X3 Y3 Z3 gs.1.length x3 gs.2.1.length y3 gs.2.2.length z3 gs gs _ Rc.out Rd.out)
  rw [decide_eq_true rfl] at V1
  have a0 := Bc.out.cell (j := 0) rfl
  have a1 := Bc.out.cell (j := 1) rfl
  have a2 := Bc.out.cell (j := 2) rfl
  have b0 := Bd.out.cell (j := 0) rfl
  have b1 := Bd.out.cell (j := 1) rfl
  have b2 := Bd.out.cell (j := 2) rfl
  go_wp2_with fail
  refine V1.out.mono ?_
  rintro e w11 ⟨rfl, hX⟩
  replace HB := Lib.hid (HB.out.trans (hX.mono HB.out.size))
  clear Bc Bd Rc Rd V1 a0 a1 a2 b0 b1 b2
  replace P1 := Lib.hid (P1.out.to hX)
  replace PH := Lib.hid (PH.out.to hX)
  replace PV := Lib.hid (PV.out.to hX)
  replace Bp := Lib.hid (Bp.out.to hX)
  replace Rp := Lib.hid (gr_below hX Rp.out)
  replace Bq := Lib.hid (Bq.out.to hX)
  replace Rq := Lib.hid (gr_below hX Rq.out)
  clear hX
  have V2 := Lib.hid (rgsame_any X4 Y4 Z4 gr.1.length x4 gr.2.1.length y4 gr.2.2.length z4 X5 Y5 Z5 gr.1.length x5 gr.2.1.length y5 gr.2.2.length z5 gr gr _ Rp.out Rq.out)
  rw [decide_eq_true rfl] at V2
  have a0 := Bp.out.cell (j := 0) rfl
  have a1 := Bp.out.cell (j := 1) rfl
  have a2 := Bp.out.cell (j := 2) rfl
  have b0 := Bq.out.cell (j := 0) rfl
  have b1 := Bq.out.cell (j := 1) rfl
  have b2 := Bq.out.cell (j := 2) rfl
  go_wp2_with fail
  refine V2.out.mono ?_
  rintro e w12 ⟨rfl, hX⟩
  replace HB := Lib.hid (HB.out.trans (hX.mono HB.out.size))
  clear Bp Bq Rp Rq V2 a0 a1 a2 b0 b1 b2
  replace P1 := Lib.hid (P1.out.to hX)
  replace PH := Lib.hid (PH.out.to hX)
  replace PV := Lib.hid (PV.out.to hX)
  clear hX
  have HS := Lib.hid (fun (W : World) (hW : Below w12.heap.size w12 W) => And.intro ((P1.out.to hW).cell (j := 0) rfl) (And.intro ((P1.out.to hW).cell (j := 1) rfl) ((P1.out.to hW).cell (j := 2) rfl)))
  go_wp2
  refine sch_start [(0, true), (2, true), (1, false), (3, false), (4, false), (5, true)] (fun W => Below w12.heap.size w12 W) (by kernel_rfl) rfl (by kernel_rfl) (fun _ _ _ _ _ h => h) (Below.refl _ w12).drew (fun hH => ?_)
  repeat (first | (refine sch_yes (v := ?_) rfl rfl ?_ hH ?_; rotate_left; (focus ((intro W hW; obtain ⟨a0, a1, a2⟩ := HS.out W hW; go_simp) <;> with_reducible rfl)); simp only [Act.put, List.setIfInBounds_toArray, List.set_cons_zero, List.set_cons_succ]) | (refine sch_no rfl rfl hH ?_; simp only [Act.put, List.setIfInBounds_toArray, List.set_cons_zero, List.set_cons_succ]))
  refine sch_call rfl rfl (fun K' hK' => ?_)
  go_wp2_with (go_at_call 19; refine (U1.out _ (HB.out.trans (hH.mono HB.out.size))).mono ?_; rintro e wa ⟨Xa, xa, Ya, ya, Za, za, rfl, ra, hBa⟩)
  have hDa := hH.trans (hBa.mono hH.size)
  refine hK'.out _ _ hDa ?_
  clear hK' hBa hH
  refine sch_call rfl rfl (fun K' hK' => ?_)
  go_wp2_with (go_at_call 20; refine (U2.out _ (HB.out.trans (hDa.mono HB.out.size))).mono ?_; rintro e wb ⟨Xb, xb, Yb, yb, Zb, zb, rfl, rb, hBb⟩)
  have hDb := hDa.trans (hBb.mono hDa.size)
  have T7 := Lib.hid (rgsame_any Xa Ya Za gw.1.length xa gw.2.1.length ya gw.2.2.length za Xb Yb Zb gw.1.length xb gw.2.1.length yb gw.2.2.length zb gw gw wb (gr_below hBb ra) rb)
  rw [decide_eq_true rfl] at T7
  refine hK'.out _ _ hDb ?_
  clear hK' hBb hDa ra rb
  refine sch_call rfl rfl (fun K' hK' => ?_)
  go_wp2_with (go_at_call 18; refine T7.out.mono ?_; rintro e wc ⟨rfl, hBc⟩)
  have hDc := hDb.trans (hBc.mono hDb.size)
  refine hK'.out _ _ hDc ?_
  clear hK' hBc hDb T7
  have hH := hDc
  repeat (first | (refine sch_yes (v := ?_) rfl rfl ?_ hH ?_; rotate_left; (focus ((intro W hW; obtain ⟨a0, a1, a2⟩ := HS.out W hW; go_simp) <;> with_reducible rfl)); simp only [Act.put, List.setIfInBounds_toArray, List.set_cons_zero, List.set_cons_succ]) | (refine sch_no rfl rfl hH ?_; simp only [Act.put, List.setIfInBounds_toArray, List.set_cons_zero, List.set_cons_succ]))
  refine sch_done ?_
  clear hH HS U1 U2
  replace HB := Lib.hid (HB.out.trans (hDc.mono HB.out.size))
  replace P1 := Lib.hid (P1.out.to hDc)
  replace PH := Lib.hid (PH.out.to hDc)
  replace PV := Lib.hid (PV.out.to hDc)
  clear hDc
  have HS := Lib.hid (fun (W : World) (hW : Below wc.heap.size wc W) => And.intro ((P1.out.to hW).cell (j := 0) rfl) (And.intro ((P1.out.to hW).cell (j := 1) rfl) ((P1.out.to hW).cell (j := 2) rfl)))
  go_wp2
  refine sch_start [(0, true), (2, true), (1, false), (3, false), (4, false), (5, true)] (fun W => Below wc.heap.size wc W) (by kernel_rfl) rfl (by kernel_rfl) (fun _ _ _ _ _ h => h) (Below.refl _ wc).drew (fun hH => ?_)
  repeat (first | (refine sch_yes (v := ?_) rfl rfl ?_ hH ?_; rotate_left; (focus ((intro W hW; obtain ⟨a0, a1, a2⟩ := HS.out W hW; go_simp) <;> with_reducible rfl)); simp only [Act.put, List.setIfInBounds_toArray, List.set_cons_zero, List.set_cons_succ]) | (refine sch_no rfl rfl hH ?_; simp only [Act.put, List.setIfInBounds_toArray, List.set_cons_zero, List.set_cons_succ]))
  refine sch_call rfl rfl (fun K' hK' => ?_)
  go_wp2_with (go_at_call 22; refine (U3.out _ (HB.out.trans (hH.mono HB.out.size))).mono ?_; rintro e wd ⟨Xd, xd, rfl, od, fd, hBd⟩)
  have hDd := hH.trans (hBd.mono hH.size)
  refine hK'.out _ _ hDd ?_
  clear hK' hBd hH
  refine sch_call rfl rfl (fun K' hK' => ?_)
  go_wp2_with (go_at_call 23; refine (U4.out _ (HB.out.trans (hDd.mono HB.out.size))).mono ?_; rintro e we ⟨Xe, xe, rfl, oe, fe, hBe⟩)
  have hDe := hDd.trans (hBe.mono hDd.size)
  have rd := ids_below hBe (rIds_stays.to (S' := All wd) (w' := wd) (Keeps.mono fun b hb => hb.2) (ids_own od rfl fd))
  have re := rIds_stays.to (S' := All we) (w' := we) (Keeps.mono fun b hb => hb.2) (ids_own oe rfl fe)
  have T8 := Lib.hid (rints_any Xd Xe R.length xd R.length xe R R we rd re)
  rw [decide_eq_true rfl] at T8
  refine hK'.out _ _ hDe ?_
  clear hK' hBe hDd rd re od oe fd fe
  refine sch_call rfl rfl (fun K' hK' => ?_)
  go_wp2_with (go_at_call 21; refine T8.out.mono ?_; rintro e wf ⟨rfl, hBf⟩)
  have hDf := hDe.trans (hBf.mono hDe.size)
  refine hK'.out _ _ hDf ?_
  clear hK' hBf hDe T8
  have hH := hDf
  repeat (first | (refine sch_yes (v := ?_) rfl rfl ?_ hH ?_; rotate_left; (focus ((intro W hW; obtain ⟨a0, a1, a2⟩ := HS.out W hW; go_simp) <;> with_reducible rfl)); simp only [Act.put, List.setIfInBounds_toArray, List.set_cons_zero, List.set_cons_succ]) | (refine sch_no rfl rfl hH ?_; simp only [Act.put, List.setIfInBounds_toArray, List.set_cons_zero, List.set_cons_succ]))
  refine sch_done ?_
  clear hH HS U3 U4
  replace HB := Lib.hid (HB.out.trans (hDf.mono HB.out.size))
  replace P1 := Lib.hid (P1.out.to hDf)
  replace PH := Lib.hid (PH.out.to hDf)
  replace PV := Lib.hid (PV.out.to hDf)
  clear hDf
  have a0 := P1.out.cell (j := 0) rfl
  have a1 := P1.out.cell (j := 1) rfl
  have a2 := P1.out.cell (j := 2) rfl
  go_wp2_with fail
  refine (U5.out _ HB.out).mono ?_
  rintro e wg ⟨rfl, hX⟩
  replace HB := Lib.hid (HB.out.trans (hX.mono HB.out.size))
  replace P1 := Lib.hid (P1.out.to hX)
  replace PH := Lib.hid (PH.out.to hX)
  replace PV := Lib.hid (PV.out.to hX)
  clear hX a0 a1 a2 U5
  have a0 := P1.out.cell (j := 0) rfl
  have a1 := P1.out.cell (j := 1) rfl
  have a2 := P1.out.cell (j := 2) rfl
  have b0 := PH.out.cell (j := 0) rfl
  have b1 := PH.out.cell (j := 1) rfl
  have b2 := PH.out.cell (j := 2) rfl
  go_wp2_with fail
  refine (U7.out _ HB.out).mono ?_
  rintro e wh ⟨rfl, hX⟩
  replace HB := Lib.hid (HB.out.trans (hX.mono HB.out.size))
  replace P1 := Lib.hid (P1.out.to hX)
  replace PH := Lib.hid (PH.out.to hX)
  replace PV := Lib.hid (PV.out.to hX)
  clear hX a0 a1 a2 b0 b1 b2 U7
  have HS := Lib.hid (fun (W : World) (hW : Below wh.heap.size wh W) => And.intro (And.intro ((P1.out.to hW).cell (j := 0) rfl) (And.intro ((P1.out.to hW).cell (j := 1) rfl) ((P1.out.to hW).cell (j := 2) rfl))) (And.intro ((PH.out.to hW).cell (j := 0) rfl) (And.intro ((PH.out.to hW).cell (j := 1) rfl) ((PH.out.to hW).cell (j := 2) rfl))))
  have q1 : (ni == ni) = true := by simp
  have q2 : (ne == ne) = true := by simp
  have q3 : (se == se) = true := by simp
  have q4 : (re == re) = true := by simp
  have q5 : (mb == mb) = true := by simp
  have q6 : (sb == sb) = true := by simp
  have q7 : (fx == fx) = true := by simp
  go_wp2
  refine sch_start [(0, true), (1, true), (2, true), (3, true), (4, true), (5, true), (6, true), (7, true), (8, true), (9, true), (10, true), (11, true), (12, true), (13, true), (14, true), (15, true), (16, true), (17, true), (18, true), (19, true), (20, true), (21, true), (22, true), (23, true), (24, true), (25, true), (26, true), (27, true), (28, true), (29, true), (30, true), (31, true), (32, true), (33, true), (34, true), (36, true), (35, false), (37, true), (38, true), (39, true), (40, true), (41, true), (43, true), (42, false), (44, true), (45, true), (46, true), (47, true), (48, true), (50, true), (51, true), (49, false), (52, false), (53, true), (54, true), (55, true)] (fun W => Below wh.heap.size wh W) (by kernel_rfl) rfl (by kernel_rfl) (fun _ _ _ _ _ h => h) (Below.refl _ wh).drew (fun hH => ?_)
  repeat (first | (refine sch_yes (v := ?_) rfl rfl ?_ hH ?_; rotate_left; (focus ((intro W hW; obtain ⟨⟨a0, a1, a2⟩, b0, b1, b2⟩ := HS.out W hW; go_simp) <;> with_reducible rfl)); simp only [Act.put, List.setIfInBounds_toArray, List.set_cons_zero, List.set_cons_succ]) | (refine sch_no rfl rfl hH ?_; simp only [Act.put, List.setIfInBounds_toArray, List.set_cons_zero, List.set_cons_succ]))
  refine sch_call rfl rfl (fun K' hK' => ?_)
  go_wp2_with (go_at_call 25; refine (U6.out _ (HB.out.trans (hH.mono HB.out.size))).mono ?_; rintro e wi ⟨rfl, hBi⟩)
  have hDwi := hH.trans (hBi.mono hH.size)
  refine hK'.out _ _ hDwi ?_
  clear hK' hBi hH
  have hH := hDwi
  clear hDwi
  repeat (first | (refine sch_yes (v := ?_) rfl rfl ?_ hH ?_; rotate_left; (focus ((intro W hW; obtain ⟨⟨a0, a1, a2⟩, b0, b1, b2⟩ := HS.out W hW; go_simp) <;> with_reducible rfl)); simp only [Act.put, List.setIfInBounds_toArray, List.set_cons_zero, List.set_cons_succ]) | (refine sch_no rfl rfl hH ?_; simp only [Act.put, List.setIfInBounds_toArray, List.set_cons_zero, List.set_cons_succ]))
  refine sch_call rfl rfl (fun K' hK' => ?_)
  go_wp2_with (go_at_call 26; refine (U8.out _ (HB.out.trans (hH.mono HB.out.size))).mono ?_; rintro e wj ⟨rfl, hBi⟩)
  have hDwj := hH.trans (hBi.mono hH.size)
  refine hK'.out _ _ hDwj ?_
  clear hK' hBi hH
  have hH := hDwj
  clear hDwj
  repeat (first | (refine sch_yes (v := ?_) rfl rfl ?_ hH ?_; rotate_left; (focus ((intro W hW; obtain ⟨⟨a0, a1, a2⟩, b0, b1, b2⟩ := HS.out W hW; go_simp) <;> with_reducible rfl)); simp only [Act.put, List.setIfInBounds_toArray, List.set_cons_zero, List.set_cons_succ]) | (refine sch_no rfl rfl hH ?_; simp only [Act.put, List.setIfInBounds_toArray, List.set_cons_zero, List.set_cons_succ]))
  refine sch_call rfl rfl (fun K' hK' => ?_)
  go_wp2_with (go_at_call 27; refine (U9.out _ (HB.out.trans (hH.mono HB.out.size))).mono ?_; rintro e wk ⟨rfl, hBi⟩)
  have hDwk := hH.trans (hBi.mono hH.size)
  refine hK'.out _ _ hDwk ?_
  clear hK' hBi hH
  have hH := hDwk
  clear hDwk
  repeat (first | (refine sch_yes (v := ?_) rfl rfl ?_ hH ?_; rotate_left; (focus ((intro W hW; obtain ⟨⟨a0, a1, a2⟩, b0, b1, b2⟩ := HS.out W hW; go_simp) <;> with_reducible rfl)); simp only [Act.put, List.setIfInBounds_toArray, List.set_cons_zero, List.set_cons_succ]) | (refine sch_no rfl rfl hH ?_; simp only [Act.put, List.setIfInBounds_toArray, List.set_cons_zero, List.set_cons_succ]))
  refine sch_call rfl rfl (fun K' hK' => ?_)
  go_wp2_with (go_at_call 28; refine (U0.out _ (HB.out.trans (hH.mono HB.out.size))).mono ?_; rintro e wl ⟨rfl, hBi⟩)
  have hDwl := hH.trans (hBi.mono hH.size)
  refine hK'.out _ _ hDwl ?_
  clear hK' hBi hH
  have hH := hDwl
  clear hDwl
  repeat (first | (refine sch_yes (v := ?_) rfl rfl ?_ hH ?_; rotate_left; (focus ((intro W hW; obtain ⟨⟨a0, a1, a2⟩, b0, b1, b2⟩ := HS.out W hW; go_simp) <;> with_reducible rfl)); simp only [Act.put, List.setIfInBounds_toArray, List.set_cons_zero, List.set_cons_succ]) | (refine sch_no rfl rfl hH ?_; simp only [Act.put, List.setIfInBounds_toArray, List.set_cons_zero, List.set_cons_succ]))
  refine sch_done ?_
  have HZ := Lib.hid (HB.out.trans (hH.mono HB.out.size))
  clear hH HS
  go_wp2
  go_ret
  exact ⟨rfl, HZ.out⟩
end Go.Proofs.Ytembafogbfcajaa
