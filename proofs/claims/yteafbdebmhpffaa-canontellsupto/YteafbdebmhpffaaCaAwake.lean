/- The contract of canon's laws' awake: the chapter's example. No condition. -/
import Derived.Test.YteafbdebmhpffaaCaIso
import Derived.Test.YteafbdebmhpffaaCaOrder
import Derived.Test.YteafbdebmhpffaaGrReach
import Derived.Test.YteafbdebmhpffaaGrOne
import Derived.Test.YteafbdebmhpffaaGrRefS
import Derived.Test.YteafbdebmhpffaaGrRow
namespace Go.Proofs.Yteafbdebmhpffaa
open Go.RowKit

def chapG : Gr := (oneS, [(2, 0, [(7, [], 0), (0, [], -1)]), (5, 0, [(8, [], 0), (0, [], 2)])], [5])
def chapC : Gr := (oneS, [(0, 0, [(8, [], 0), (0, [], 1)]), (1, 0, [(7, [], 0), (0, [], -1)])], [0])
theorem chap_may : mayG chapG = true := by
  rw [mayG, show chapG.1 = oneS from rfl, one_may]
  decide
theorem chap_ord : ordG chapG = [5, 2] := by rw [ordG_yes chap_may]; decide
theorem chap_canon : canonG chapG = chapC := by rw [canonG_yes chap_may, chap_ord]; decide
theorem chap_iso : isoG chapG chapC = true := by rw [← chap_canon]; exact iso_canon chap_may

theorem chap_read {w1 : World} {A : Option Addr} {c : Nat} (hs : rSch (All w1) w1 [.slice A 1 c] oneS) : rGr (All ((((w1.alloc (.cells #[.int .i64 7, .string ⟨#[]⟩, .int .i64 0, .int .i64 0, .string ⟨#[]⟩, .int .i64 (-1)] 42)).alloc (.cells #[.int .i64 8, .string ⟨#[]⟩, .int .i64 0, .int .i64 0, .string ⟨#[]⟩, .int .i64 2] 42)).alloc (.cells #[.int .i64 2, .int .i64 0, .slice (some ⟨w1.heap.size, 0, none⟩) 2 2, .int .i64 5, .int .i64 0, .slice (some ⟨w1.heap.size + 1, 0, none⟩) 2 2] 38)).alloc (.cells #[.int .i64 5] 3))) ((((w1.alloc (.cells #[.int .i64 7, .string ⟨#[]⟩, .int .i64 0, .int .i64 0, .string ⟨#[]⟩, .int .i64 (-1)] 42)).alloc (.cells #[.int .i64 8, .string ⟨#[]⟩, .int .i64 0, .int .i64 0, .string ⟨#[]⟩, .int .i64 2] 42)).alloc (.cells #[.int .i64 2, .int .i64 0, .slice (some ⟨w1.heap.size, 0, none⟩) 2 2, .int .i64 5, .int .i64 0, .slice (some ⟨w1.heap.size + 1, 0, none⟩) 2 2] 38)).alloc (.cells #[.int .i64 5] 3)) [.slice A 1 c, .slice (some ⟨w1.heap.size + 1 + 1, 0, none⟩) 2 2, .slice (some ⟨w1.heap.size + 1 + 1 + 1, 0, none⟩) 1 1] chapG := by
  obtain ⟨z1, z2, z3, z4⟩ := four_boxes w1 (.cells #[.int .i64 7, .string ⟨#[]⟩, .int .i64 0, .int .i64 0, .string ⟨#[]⟩, .int .i64 (-1)] 42) (.cells #[.int .i64 8, .string ⟨#[]⟩, .int .i64 0, .int .i64 0, .string ⟨#[]⟩, .int .i64 2] 42) (.cells #[.int .i64 2, .int .i64 0, .slice (some ⟨w1.heap.size, 0, none⟩) 2 2, .int .i64 5, .int .i64 0, .slice (some ⟨w1.heap.size + 1, 0, none⟩) 2 2] 38) (.cells #[.int .i64 5] 3)
  have hB4 : Below w1.heap.size w1 ((((w1.alloc (.cells #[.int .i64 7, .string ⟨#[]⟩, .int .i64 0, .int .i64 0, .string ⟨#[]⟩, .int .i64 (-1)] 42)).alloc (.cells #[.int .i64 8, .string ⟨#[]⟩, .int .i64 0, .int .i64 0, .string ⟨#[]⟩, .int .i64 2] 42)).alloc (.cells #[.int .i64 2, .int .i64 0, .slice (some ⟨w1.heap.size, 0, none⟩) 2 2, .int .i64 5, .int .i64 0, .slice (some ⟨w1.heap.size + 1, 0, none⟩) 2 2] 38)).alloc (.cells #[.int .i64 5] 3)) := ((((Below.refl w1.heap.size w1).alloc (Nat.le_refl _) _).alloc (by simp) _).alloc (by simp; omega) _).alloc (by simp; omega) _
  have hsz : ((((w1.alloc (.cells #[.int .i64 7, .string ⟨#[]⟩, .int .i64 0, .int .i64 0, .string ⟨#[]⟩, .int .i64 (-1)] 42)).alloc (.cells #[.int .i64 8, .string ⟨#[]⟩, .int .i64 0, .int .i64 0, .string ⟨#[]⟩, .int .i64 2] 42)).alloc (.cells #[.int .i64 2, .int .i64 0, .slice (some ⟨w1.heap.size, 0, none⟩) 2 2, .int .i64 5, .int .i64 0, .slice (some ⟨w1.heap.size + 1, 0, none⟩) 2 2] 38)).alloc (.cells #[.int .i64 5] 3)).heap.size = w1.heap.size + 4 := by simp
  generalize ((((w1.alloc (.cells #[.int .i64 7, .string ⟨#[]⟩, .int .i64 0, .int .i64 0, .string ⟨#[]⟩, .int .i64 (-1)] 42)).alloc (.cells #[.int .i64 8, .string ⟨#[]⟩, .int .i64 0, .int .i64 0, .string ⟨#[]⟩, .int .i64 2] 42)).alloc (.cells #[.int .i64 2, .int .i64 0, .slice (some ⟨w1.heap.size, 0, none⟩) 2 2, .int .i64 5, .int .i64 0, .slice (some ⟨w1.heap.size + 1, 0, none⟩) 2 2] 38)).alloc (.cells #[.int .i64 5] 3)) = W at *
  replace z1 : Blk W w1.heap.size 42 [.int .i64 7, .string ⟨#[]⟩, .int .i64 0, .int .i64 0, .string ⟨#[]⟩, .int .i64 (-1)] := z1
  replace z2 : Blk W (w1.heap.size + 1) 42 [.int .i64 8, .string ⟨#[]⟩, .int .i64 0, .int .i64 0, .string ⟨#[]⟩, .int .i64 2] := z2
  replace z3 : Blk W (w1.heap.size + 1 + 1) 38 [.int .i64 2, .int .i64 0, .slice (some ⟨w1.heap.size, 0, none⟩) 2 2, .int .i64 5, .int .i64 0, .slice (some ⟨w1.heap.size + 1, 0, none⟩) 2 2] := z3
  replace z4 : Blk W (w1.heap.size + 1 + 1 + 1) 3 [.int .i64 5] := z4
  refine rGr_mk (sch_below hB4 hs) ?_ ?_
  · refine blk_slice (l := [(2, 0, [(7, [], 0), (0, [], -1)]), (5, 0, [(8, [], 0), (0, [], 2)])]) z3 ?_ (by show _ < _; omega) (by decide)
    have c1 : Chunks 3 (rVal (All W) W) [.int .i64 7, .string ⟨#[]⟩, .int .i64 0, .int .i64 0, .string ⟨#[]⟩, .int .i64 (-1)] ([(7, [], 0), (0, [], -1)] : List Vl) :=
      (Chunks.one (size := 3) (cs := [.int .i64 7, .string ⟨#[]⟩, .int .i64 0]) (a := ((7, [], 0) : Vl)) rfl (rVal_mk (v := ((7, [], 0) : Vl)) rfl (Nat.zero_le _) (by decide) (by decide))).append (Chunks.one (size := 3) (cs := [.int .i64 0, .string ⟨#[]⟩, .int .i64 (-1)]) (a := ((0, [], -1) : Vl)) rfl (rVal_mk (v := ((0, [], -1) : Vl)) rfl (Nat.zero_le _) (by decide) (by decide)))
    have c2 : Chunks 3 (rVal (All W) W) [.int .i64 8, .string ⟨#[]⟩, .int .i64 0, .int .i64 0, .string ⟨#[]⟩, .int .i64 2] ([(8, [], 0), (0, [], 2)] : List Vl) :=
      (Chunks.one (size := 3) (cs := [.int .i64 8, .string ⟨#[]⟩, .int .i64 0]) (a := ((8, [], 0) : Vl)) rfl (rVal_mk (v := ((8, [], 0) : Vl)) rfl (Nat.zero_le _) (by decide) (by decide))).append (Chunks.one (size := 3) (cs := [.int .i64 0, .string ⟨#[]⟩, .int .i64 2]) (a := ((0, [], 2) : Vl)) rfl (rVal_mk (v := ((0, [], 2) : Vl)) rfl (Nat.zero_le _) (by decide) (by decide)))
    have v1 : rVals (All W) W [.slice (some ⟨w1.heap.size, 0, none⟩) 2 2] [(7, [], 0), (0, [], -1)] := blk_slice z1 c1 (by show w1.heap.size < _; omega) (by decide)
    have v2 : rVals (All W) W [.slice (some ⟨w1.heap.size + 1, 0, none⟩) 2 2] [(8, [], 0), (0, [], 2)] := blk_slice z2 c2 (by show w1.heap.size + 1 < _; omega) (by decide)
    have k1 : rOb (All W) W [.int .i64 2, .int .i64 0, .slice (some ⟨w1.heap.size, 0, none⟩) 2 2] (2, 0, [(7, [], 0), (0, [], -1)]) := rOb_mk (o := (2, 0, [(7, [], 0), (0, [], -1)])) (by decide) (by decide) v1
    have k2 : rOb (All W) W [.int .i64 5, .int .i64 0, .slice (some ⟨w1.heap.size + 1, 0, none⟩) 2 2] (5, 0, [(8, [], 0), (0, [], 2)]) := rOb_mk (o := (5, 0, [(8, [], 0), (0, [], 2)])) (by decide) (by decide) v2
    exact (Chunks.one rfl k1).append (Chunks.one rfl k2)
  · exact blk_slice (l := [5]) z4 (Chunks.one rfl ⟨rfl, by decide⟩) (by show _ < _; omega) (by decide)

set_option maxRecDepth 100000 in
set_option maxHeartbeats 1000000 in
theorem cawake_any (w : World) : Calls Try.prog 10 #[] w fun e w' => e = .returned (.bool true) ∧ Below w.heap.size w w' := by
  have TO : Hid (∀ A B C c W, rGr (All W) W [.slice A 1 c, .slice B 2 2, .slice C 1 1] chapG → Calls Try.prog 13 #[.agg #[.slice A 1 c, .slice B 2 2, .slice C 1 1]] W fun e w' => ∃ A1 c1, e = .returned (.slice A1 2 c1) ∧ rIds (All w') w' [.slice A1 2 c1] [5, 2] ∧ Below W.heap.size W w') := Lib.hid (fun A B C c W h => by
    have := order_any A B C 1 c 2 2 1 1 chapG W h
    rw [chap_ord] at this
    exact this.mono fun e w' ⟨A1, c1, h1, h2, h3⟩ => ⟨A1, c1, h1, rIds_stays.to (Keeps.mono fun b hb => hb.2) h2, h3⟩)
  have TC : Hid (∀ A B C c W, rGr (All W) W [.slice A 1 c, .slice B 2 2, .slice C 1 1] chapG → Calls Try.prog 16 #[.agg #[.slice A 1 c, .slice B 2 2, .slice C 1 1]] W fun e w' => ∃ A1 c1 B1 d1 C1 e1, e = .returned (.agg #[.slice A1 1 c1, .slice B1 2 d1, .slice C1 1 e1]) ∧ rGr (All w') w' [.slice A1 1 c1, .slice B1 2 d1, .slice C1 1 e1] chapC ∧ Below W.heap.size W w') := Lib.hid (fun A B C c W h => by
    have := canon_any A B C 1 c 2 2 1 1 chapG W h
    rw [chap_canon] at this
    exact this)
  have TI := Lib.hid (fun A B C c A1 B1 C1 c1 d1 e1 W hg hh => iso_any A B C 1 c 2 2 1 1 A1 B1 C1 1 c1 2 d1 1 e1 chapG chapC W hg hh)
  rw [chap_iso] at TI
  go_enter Try.func10, Try.ntmps10
  go_wp2_with fail
  refine (sone_own _).mono ?_
  rintro e w1 ⟨A, c, rfl, hs, hB1⟩
  have hr := gr_below ((Below.refl _ _).alloc (Nat.le_refl _) (.cells #[.slice A 1 c, .slice (some ⟨w1.heap.size + 1 + 1, 0, none⟩) 2 2, .slice (some ⟨w1.heap.size + 1 + 1 + 1, 0, none⟩) 1 1] 28)) (chap_read (rSch_stays.to (Keeps.mono fun b hb => hb.2) hs))
  have hB5 : Below w1.heap.size w1 (((((w1.alloc (.cells #[.int .i64 7, .string ⟨#[]⟩, .int .i64 0, .int .i64 0, .string ⟨#[]⟩, .int .i64 (-1)] 42)).alloc (.cells #[.int .i64 8, .string ⟨#[]⟩, .int .i64 0, .int .i64 0, .string ⟨#[]⟩, .int .i64 2] 42)).alloc (.cells #[.int .i64 2, .int .i64 0, .slice (some ⟨w1.heap.size, 0, none⟩) 2 2, .int .i64 5, .int .i64 0, .slice (some ⟨w1.heap.size + 1, 0, none⟩) 2 2] 38)).alloc (.cells #[.int .i64 5] 3)).alloc (.cells #[.slice A 1 c, .slice (some ⟨w1.heap.size + 1 + 1, 0, none⟩) 2 2, .slice (some ⟨w1.heap.size + 1 + 1 + 1, 0, none⟩) 1 1] 28)) := (((((Below.refl w1.heap.size w1).alloc (Nat.le_refl _) _).alloc (by simp) _).alloc (by simp; omega) _).alloc (by simp; omega) _).alloc (by simp; omega) _
  have p5 := Blk.new ((((w1.alloc (.cells #[.int .i64 7, .string ⟨#[]⟩, .int .i64 0, .int .i64 0, .string ⟨#[]⟩, .int .i64 (-1)] 42)).alloc (.cells #[.int .i64 8, .string ⟨#[]⟩, .int .i64 0, .int .i64 0, .string ⟨#[]⟩, .int .i64 2] 42)).alloc (.cells #[.int .i64 2, .int .i64 0, .slice (some ⟨w1.heap.size, 0, none⟩) 2 2, .int .i64 5, .int .i64 0, .slice (some ⟨w1.heap.size + 1, 0, none⟩) 2 2] 38)).alloc (.cells #[.int .i64 5] 3)) 28 [.slice A 1 c, .slice (some ⟨w1.heap.size + 1 + 1, 0, none⟩) 2 2, .slice (some ⟨w1.heap.size + 1 + 1 + 1, 0, none⟩) 1 1]
  have hs4 : ((((w1.alloc (.cells #[.int .i64 7, .string ⟨#[]⟩, .int .i64 0, .int .i64 0, .string ⟨#[]⟩, .int .i64 (-1)] 42)).alloc (.cells #[.int .i64 8, .string ⟨#[]⟩, .int .i64 0, .int .i64 0, .string ⟨#[]⟩, .int .i64 2] 42)).alloc (.cells #[.int .i64 2, .int .i64 0, .slice (some ⟨w1.heap.size, 0, none⟩) 2 2, .int .i64 5, .int .i64 0, .slice (some ⟨w1.heap.size + 1, 0, none⟩) 2 2] 38)).alloc (.cells #[.int .i64 5] 3)).heap.size = w1.heap.size + 1 + 1 + 1 + 1 := by simp
  rw [hs4] at p5
  have H5 := Lib.hid (hB1.trans (hB5.mono hB1.size))
  have Hr := Lib.hid hr
  have P5 := Lib.hid p5
  clear hr hB5 p5 hs4 hs hB1
  go_wp2_with fail
  generalize (((((w1.alloc (.cells #[.int .i64 7, .string ⟨#[]⟩, .int .i64 0, .int .i64 0, .string ⟨#[]⟩, .int .i64 (-1)] 42)).alloc (.cells #[.int .i64 8, .string ⟨#[]⟩, .int .i64 0, .int .i64 0, .string ⟨#[]⟩, .int .i64 2] 42)).alloc (.cells #[.int .i64 2, .int .i64 0, .slice (some ⟨w1.heap.size, 0, none⟩) 2 2, .int .i64 5, .int .i64 0, .slice (some ⟨w1.heap.size + 1, 0, none⟩) 2 2] 38)).alloc (.cells #[.int .i64 5] 3)).alloc (.cells #[.slice A 1 c, .slice (some ⟨w1.heap.size + 1 + 1, 0, none⟩) 2 2, .slice (some ⟨w1.heap.size + 1 + 1 + 1, 0, none⟩) 1 1] 28)) = w5 at *
  refine (TO.out _ _ _ _ _ Hr.out).mono ?_
  rintro e w6 ⟨A6, c6, rfl, h6, hB6⟩
  have H6 := Lib.hid (H5.out.trans (hB6.mono H5.out.size))
  have Hr6 := Lib.hid (gr_below hB6 Hr.out)
  have p6 := P5.out.to hB6
  have y0 := p6.cell (j := 0) rfl
  have y1 := p6.cell (j := 1) rfl
  have y2 := p6.cell (j := 2) rfl
  clear Hr H5 TO P5 hB6
  go_wp2_with fail
  refine (TC.out _ _ _ _ _ Hr6.out).mono ?_
  rintro e w7 ⟨A7, c7, B7, d7, C7, e7, rfl, h7, hB7⟩
  have hB8 : Below w7.heap.size w7 (w7.alloc (.cells #[.slice A7 1 c7, .slice B7 2 d7, .slice C7 1 e7] 28)) := (Below.refl _ w7).alloc (Nat.le_refl _) _
  have p8 := (Blk.new w7 28 [.slice A7 1 c7, .slice B7 2 d7, .slice C7 1 e7]).alloc (.cells #[.int .i64 5, .int .i64 2] 3)
  have p9 := Blk.new (w7.alloc (.cells #[.slice A7 1 c7, .slice B7 2 d7, .slice C7 1 e7] 28)) 3 [.int .i64 5, .int .i64 2]
  have hB9 : Below w7.heap.size w7 ((w7.alloc (.cells #[.slice A7 1 c7, .slice B7 2 d7, .slice C7 1 e7] 28)).alloc (.cells #[.int .i64 5, .int .i64 2] 3)) := hB8.alloc (by simp) _
  have hs8 : (w7.alloc (.cells #[.slice A7 1 c7, .slice B7 2 d7, .slice C7 1 e7] 28)).heap.size = w7.heap.size + 1 := by simp
  rw [hs8] at p9
  have r9 : rIds (All ((w7.alloc (.cells #[.slice A7 1 c7, .slice B7 2 d7, .slice C7 1 e7] 28)).alloc (.cells #[.int .i64 5, .int .i64 2] 3))) ((w7.alloc (.cells #[.slice A7 1 c7, .slice B7 2 d7, .slice C7 1 e7] 28)).alloc (.cells #[.int .i64 5, .int .i64 2] 3)) [.slice (some ⟨w7.heap.size + 1, 0, none⟩) 2 2] [5, 2] :=
    blk_slice (l := [5, 2]) p9 ((Chunks.one (size := 1) (cs := [.int .i64 5]) (a := (5 : Int)) rfl ⟨rfl, by decide⟩).append (Chunks.one (size := 1) (cs := [.int .i64 2]) (a := (2 : Int)) rfl ⟨rfl, by decide⟩)) p9.lt (by decide)
  have hB79 := hB7.trans (hB9.mono hB7.size)
  have T9 := Lib.hid (rints_any A6 (some ⟨w7.heap.size + 1, 0, none⟩) 2 c6 2 2 [5, 2] [5, 2] _ (ids_below hB79 h6) r9)
  have H9 := Lib.hid (H6.out.trans (hB79.mono H6.out.size))
  have Hr9 := Lib.hid (gr_below hB79 Hr6.out)
  have Hc9 := Lib.hid (gr_below hB9 h7)
  replace p6 := p6.to hB79
  rw [decide_eq_true rfl] at T9
  clear y0 y1 y2 hB8 hB9 hB79 hB7 TC h6 h7 H6 Hr6 hs8 p9 r9
  go_wp2_with fail
  generalize ((w7.alloc (.cells #[.slice A7 1 c7, .slice B7 2 d7, .slice C7 1 e7] 28)).alloc (.cells #[.int .i64 5, .int .i64 2] 3)) = w9 at *
  refine T9.out.mono ?_
  rintro e wa ⟨rfl, hBa⟩
  have Ha := Lib.hid (H9.out.trans (hBa.mono H9.out.size))
  have ra := gr_below hBa Hr9.out
  have ca := gr_below hBa Hc9.out
  replace p6 := p6.to hBa
  replace p8 := p8.to hBa
  have Ti := Lib.hid (TI.out _ _ _ _ _ _ _ _ _ _ wa ra ca)
  clear Hr9 Hc9 H9 hBa TI T9 ra
  obtain ⟨bo, offo, Av, cv, rfl, -, -, -, x2, hvs, -, -⟩ := ob_at (rGr_open ca).2.1 (i := 0) (o := (0, 0, [(8, [], 0), (0, [], 1)])) rfl
  obtain ⟨bv, offv, sv, rfl, -, v0, -, -, -, -, -, -⟩ := val_at hvs (i := 0) (v := (8, [], 0)) rfl
  obtain ⟨bv', offv', sv', ev, -, -, -, v5, -, -, -, -⟩ := val_at hvs (i := 1) (v := (0, [], 1)) rfl
  injection ev with ev
  injection ev with ev1 ev2 _
  subst ev1 ev2
  have y0 := p6.cell (j := 0) rfl
  have y1 := p6.cell (j := 1) rfl
  have y2 := p6.cell (j := 2) rfl
  have z0 := p8.cell (j := 0) rfl
  have z1 := p8.cell (j := 1) rfl
  have z2 := p8.cell (j := 2) rfl
  simp only [Nat.zero_mul, Nat.one_mul, Nat.add_zero, List.length_cons, List.length_nil] at x2 v0 v5
  clear hvs ca
  go_wp2_with fail
  refine Ti.out.mono ?_
  rintro e wb ⟨rfl, hBb⟩
  go_wp2
  go_ret
  exact ⟨rfl, Ha.out.trans (hBb.mono Ha.out.size)⟩
end Go.Proofs.Yteafbdebmhpffaa
