/- The contract of graph's mayObj. Nothing that was there is changed. No condition. -/
import Derived.Test.YtembafogbfcajaaGrEach
namespace Go.Proofs.Ytembafogbfcajaa
open Go.RowKit

set_option maxRecDepth 100000 in
set_option maxHeartbeats 2000000 in
theorem mayObj_any (A B C : Option Addr) (N c M d K e : Nat) (g : Gr) (o : Ob) (A2 : Option Addr) (c2 : Nat) (w : World) (h : rGr (All w) w [.slice A N c, .slice B M d, .slice C K e] g) (hv : rVals (All w) w [.slice A2 o.2.2.length c2] o.2.2) :
    Calls Try.prog 79 #[.agg #[.slice A N c, .slice B M d, .slice C K e], .agg #[.int .i64 o.1, .int .i64 o.2.1, .slice A2 o.2.2.length c2]] w fun e w' => e = .returned (.bool (mayO g o)) ∧ Below w.heap.size w w' := by
  have hB0 : Below w.heap.size w ((w.alloc (.cells #[.slice A N c, .slice B M d, .slice C K e] 28)).alloc (.cells #[.int .i64 o.1, .int .i64 o.2.1, .slice A2 o.2.2.length c2] 49)) := ((Below.refl _ w).alloc (Nat.le_refl _) _).alloc (by simp) _
  obtain ⟨p1, p2⟩ := blk_two w 28 49 [.slice A N c, .slice B M d, .slice C K e] [.int .i64 o.1, .int .i64 o.2.1, .slice A2 o.2.2.length c2]
  obtain ⟨hN, hNc, hcm⟩ := slice_len (rGr_open h).1
  simp only [maxLen] at hcm
  have T1 := Lib.hid (fun W => isPlace_any o.2.1 (N : Int) W)
  have Hv : Hid (mayO g o = ((decide (0 ≤ o.2.1) && decide (o.2.1 < (g.1.length : Int))) && all2 (haveG g) (fldsG g.1 o.2.1) o.2.2)) := Lib.hid rfl
  rw [hN] at Hv
  have l1 := p1.lt
  have l2 := p2.lt
  by_cases hp : (decide (0 ≤ o.2.1) && decide (o.2.1 < (N : Int))) = true
  · obtain ⟨t, ht⟩ : ∃ t : Nat, o.2.1 = (t : Int) := ⟨o.2.1.toNat, by simp at hp; omega⟩
    have htN : t < N := by simp at hp; omega
    have hxt : g.1[t]? = some g.1[t] := List.getElem?_eq_getElem (by omega)
    obtain ⟨b, off, sx, A4, c4, rfl, hb, -, hx2, -, -, hfl⟩ := typ_at (rGr_open h).1 hxt
    rw [hp, Bool.true_and, fldsG_at ht hxt] at Hv
    rw [hp, ht] at T1
    have T2 := Lib.hid (fun W (hW : Below w.heap.size w W) hG => equalFV_any (some ⟨b, off, none⟩) B C N c M d K e g A4 A2 g.1[t].2.length c4 o.2.2.length c2 g.1[t].2 o.2.2 w.heap.size W hG (gr_below hW h) (flds_below hW hfl) (vals_below hW hv))
    have hil : (t : Int) < (N : Int) := by omega
    have hi0 : (0 : Int) ≤ (t : Int) := by omega
    have hx2' := (hB0.cell (p := ⟨b, off + t * 2 + 1, none⟩) hb).trans hx2
    have S0 := And.intro (p1.cell (j := 0) rfl) (And.intro (p2.cell (j := 1) rfl) (And.intro (p2.cell (j := 2) rfl) hx2'))
    have HB0 := Lib.hid hB0
    have hb1 : b < ((w.alloc (.cells #[.slice (some ⟨b, off, none⟩) N c, .slice B M d, .slice C K e] 28)).alloc (.cells #[.int .i64 o.1, .int .i64 o.2.1, .slice A2 o.2.2.length c2] 49)).heap.size := Nat.lt_of_lt_of_le hb hB0.size
    have P1 := Lib.hid p1
    clear h hv hfl hx2 hx2' hB0 p1 p2 hp
    rw [ht] at *
    generalize mayO g o = r at *
    generalize all2 (haveG g) g.1[t].2 o.2.2 = m1 at *
    generalize g.1[t].2.length = fl at *
    generalize o.2.2.length = vl at *
    generalize o.1 = oid at *
    clear hxt ht
    go_enter Try.func79, Try.ntmps79
    go_wp2
    generalize (w.alloc (.cells #[.slice (some ⟨b, off, none⟩) N c, .slice B M d, .slice C K e] 28)).alloc (.cells #[.int .i64 oid, .int .i64 (t : Int), .slice A2 vl c2] 49) = w0 at *
    refine sch_start [(0, true), (1, true), (2, true), (3, true), (4, true), (5, true), (6, false), (7, true), (8, true), (9, true), (10, true), (11, true), (12, true), (13, true), (14, true), (15, true), (16, true), (17, true), (18, true), (19, false), (20, true), (21, true)]
      (fun W => W.cell? ⟨w.heap.size, 0, none⟩ = some (.slice (some ⟨b, off, none⟩) N c) ∧ W.cell? ⟨w.heap.size + 1, 1, none⟩ = some (.int .i64 (t : Int)) ∧ W.cell? ⟨w.heap.size + 1, 2, none⟩ = some (.slice A2 vl c2) ∧ W.cell? ⟨b, off + t * 2 + 1, none⟩ = some (.slice A4 fl c4)) (by kernel_rfl) rfl (by kernel_rfl) (fun _ _ _ _ _ h => h) S0 (fun hH => ?_)
    repeat (first | (refine sch_yes (v := ?_) rfl rfl ?_ hH ?_; rotate_left; (focus ((rintro W ⟨hW1, hW2, hW3, hW4⟩; go_simp) <;> with_reducible rfl)); simp only [Act.put, List.setIfInBounds_toArray, List.set_cons_zero, List.set_cons_succ]) | (refine sch_no rfl rfl hH ?_; simp only [Act.put, List.setIfInBounds_toArray, List.set_cons_zero, List.set_cons_succ]))
    refine sch_call rfl rfl (fun K hK => ?_)
    go_wp2_with (go_at_call 66; refine (T1.out _).mono ?_; rintro e w8 ⟨rfl, rfl⟩)
    refine hK.out _ _ S0 ?_
    clear hK hH
    have hH := S0
    repeat (first | (refine sch_yes (v := ?_) rfl rfl ?_ hH ?_; rotate_left; (focus ((rintro W ⟨hW1, hW2, hW3, hW4⟩; go_simp) <;> with_reducible rfl)); simp only [Act.put, List.setIfInBounds_toArray, List.set_cons_zero, List.set_cons_succ]) | (refine sch_no rfl rfl hH ?_; simp only [Act.put, List.setIfInBounds_toArray, List.set_cons_zero, List.set_cons_succ]))
    refine sch_call rfl rfl (fun K hK => ?_)
    go_wp2_with (go_at_call 96; refine (T2.out _ HB0.out.drew P1.out).mono ?_; rintro e w9 ⟨rfl, hB9⟩)
    have hC9 : Below w0.heap.size w0 w9 := (Below.refl w0.heap.size w0).drew.trans hB9
    have hH8 := And.intro ((hC9.cell (p := ⟨w.heap.size, 0, none⟩) l1).trans S0.1) (And.intro ((hC9.cell (p := ⟨w.heap.size + 1, 1, none⟩) l2).trans S0.2.1) (And.intro ((hC9.cell (p := ⟨w.heap.size + 1, 2, none⟩) l2).trans S0.2.2.1) ((hC9.cell (p := ⟨b, off + t * 2 + 1, none⟩) hb1).trans S0.2.2.2)))
    refine hK.out _ _ hH8 ?_
    clear hK hH
    have hH := hH8
    repeat (first | (refine sch_yes (v := ?_) rfl rfl ?_ hH ?_; rotate_left; (focus ((rintro W ⟨hW1, hW2, hW3, hW4⟩; go_simp) <;> with_reducible rfl)); simp only [Act.put, List.setIfInBounds_toArray, List.set_cons_zero, List.set_cons_succ]) | (refine sch_no rfl rfl hH ?_; simp only [Act.put, List.setIfInBounds_toArray, List.set_cons_zero, List.set_cons_succ]))
    refine sch_done ?_
    clear hH hH8
    go_wp2
    go_ret
    exact ⟨by rw [Hv.out]; rfl, HB0.out.trans (hC9.mono HB0.out.size)⟩
  · have hp' : (decide (0 ≤ o.2.1) && decide (o.2.1 < (N : Int))) = false := by simpa using hp
    rw [hp', Bool.false_and] at Hv
    rw [hp'] at T1
    have HB0 := Lib.hid hB0
    have S0 := And.intro (p1.cell (j := 0) rfl) (p2.cell (j := 1) rfl)
    clear h hv hB0 p1 p2 hp hp'
    generalize mayO g o = r at *
    generalize o.2.2.length = vl at *
    generalize o.1 = oid at *
    generalize o.2.1 = ot at *
    go_enter Try.func79, Try.ntmps79
    go_wp2
    generalize (w.alloc (.cells #[.slice A N c, .slice B M d, .slice C K e] 28)).alloc (.cells #[.int .i64 oid, .int .i64 ot, .slice A2 vl c2] 49) = w0 at *
    refine sch_start [(0, true), (1, true), (2, true), (3, true), (4, true), (5, true), (6, false), (7, true), (8, true), (9, true), (10, true), (11, true), (12, true), (13, true), (14, true), (15, true), (16, true), (17, true), (18, true), (19, false), (20, true), (21, true)]
      (fun W => W.cell? ⟨w.heap.size, 0, none⟩ = some (.slice A N c) ∧ W.cell? ⟨w.heap.size + 1, 1, none⟩ = some (.int .i64 ot)) (by kernel_rfl) rfl (by kernel_rfl) (fun _ _ _ _ _ h => h) S0 (fun hH => ?_)
    repeat (first | (refine sch_yes (v := ?_) rfl rfl ?_ hH ?_; rotate_left; (focus ((rintro W ⟨hW1, hW2⟩; go_simp) <;> with_reducible rfl)); simp only [Act.put, List.setIfInBounds_toArray, List.set_cons_zero, List.set_cons_succ]) | (refine sch_no rfl rfl hH ?_; simp only [Act.put, List.setIfInBounds_toArray, List.set_cons_zero, List.set_cons_succ]))
    refine sch_call rfl rfl (fun K hK => ?_)
    go_wp2_with (go_at_call 66; refine (T1.out _).mono ?_; rintro e w8 ⟨rfl, rfl⟩)
    refine hK.out _ _ S0 ?_
    clear hK hH
    have hH := S0
    repeat (first | (refine sch_yes (v := ?_) rfl rfl ?_ hH ?_; rotate_left; (focus ((rintro W ⟨hW1, hW2⟩; go_simp) <;> with_reducible rfl)); simp only [Act.put, List.setIfInBounds_toArray, List.set_cons_zero, List.set_cons_succ]) | (refine sch_no rfl rfl hH ?_; simp only [Act.put, List.setIfInBounds_toArray, List.set_cons_zero, List.set_cons_succ]))
    refine sch_call_no rfl rfl hH ?_
    repeat (first | (refine sch_yes (v := ?_) rfl rfl ?_ hH ?_; rotate_left; (focus ((rintro W ⟨hW1, hW2⟩; go_simp) <;> with_reducible rfl)); simp only [Act.put, List.setIfInBounds_toArray, List.set_cons_zero, List.set_cons_succ]) | (refine sch_no rfl rfl hH ?_; simp only [Act.put, List.setIfInBounds_toArray, List.set_cons_zero, List.set_cons_succ]))
    refine sch_done ?_
    clear hH
    go_wp2
    go_ret
    exact ⟨by rw [Hv.out]; rfl, HB0.out.drew⟩
end Go.Proofs.Ytembafogbfcajaa
