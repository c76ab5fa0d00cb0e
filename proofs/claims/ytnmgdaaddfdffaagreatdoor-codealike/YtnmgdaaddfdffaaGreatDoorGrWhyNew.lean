/- The contracts of graph's nextId and whyNoNew. Nothing that was there is changed. Condition of nextId: a graph that may be. -/
import Derived.Test.YtnmgdaaddfdffaaGreatDoorGPlain
import Derived.Test.YtnmgdaaddfdffaaGreatDoorGGraph
namespace Go.Proofs.YtnmgdaaddfdffaaGreatDoor
open Go.RowKit

set_option maxRecDepth 100000 in
set_option maxHeartbeats 1000000 in
theorem nextId_any (A B C : Option Addr) (N c M d K e : Nat) (g : Gr) (w : World) (h : rGr (All w) w [.slice A N c, .slice B M d, .slice C K e] g) (hm : mayG g = true) :
    Calls Tryz.prog 69 #[.agg #[.slice A N c, .slice B M d, .slice C K e]] w fun e w' => e = .returned (.int .i64 (nextG g.2.1)) ∧ Below w.heap.size w w' := by
  have hB0 : Below w.heap.size w (w.alloc (.cells #[.slice A N c, .slice B M d, .slice C K e] 28)) := (Below.refl _ w).alloc (Nat.le_refl _) _
  obtain ⟨hM, hMd, hdm⟩ := slice_len (rGr_open h).2.1
  have h8 := (mayG_parts hm).2.1
  by_cases h0 : M = 0
  · have Hn : Hid (nextG g.2.1 = 0) := Lib.hid (by rw [List.eq_nil_of_length_eq_zero (by omega : g.2.1.length = 0)]; rfl)
    subst h0
    go_enter Tryz.func69, Tryz.ntmps69
    go_wp2
    go_ret
    exact ⟨by rw [Hn.out]; rfl, hB0⟩
  · obtain ⟨o, ho⟩ : ∃ o, g.2.1[M - 1]? = some o := ⟨_, List.getElem?_eq_getElem (by omega)⟩
    have mo := mayG_obj hm (List.mem_of_getElem? ho)
    have h1 := mo.id1
    have h2 := mo.id0
    have Hn : Hid (nextG g.2.1 = o.1 + 1) := Lib.hid (nextG_last (by rw [hM]; exact ho))
    obtain ⟨b, off, A2, c2, rfl, hb, x0, -, -, -, -, -⟩ := ob_at (rGr_open h).2.1 ho
    have x0' := (hB0.cell (p := ⟨b, off + (M - 1) * 3, none⟩) hb).trans x0
    obtain ⟨m, hm1⟩ : ∃ m, M = m + 1 := ⟨M - 1, by omega⟩
    subst hm1
    have e1 : wrap64 ((m : Int) + 1 - 1) = (m : Int) := by unfold wrap64; omega
    have e2 : (((m + 1 : Nat) : Int) == 0) = false := by rw [beq_eq_false_iff_ne]; omega
    have e3 : wrap64 (o.1 + 1) = o.1 + 1 := by unfold wrap64; omega
    have e4 : (m : Int) < ((m + 1 : Nat) : Int) := by omega
    have e5 : (0 : Int) ≤ (m : Int) := by omega
    rw [Nat.add_sub_cancel] at x0'
    clear h mo ho x0 h1 h2 h0 hm
    generalize o.1 = ov at *
    have HR : Hid (Ending.returned (.int .i64 (wrap64 (ov + 1))) = .returned (.int .i64 (nextG g.2.1))) := Lib.hid (by rw [Hn.out, e3])
    clear e3 Hn
    go_enter Tryz.func69, Tryz.ntmps69
    go_wp2
    go_ret
    exact ⟨HR.out, hB0⟩

set_option maxRecDepth 100000 in
set_option maxHeartbeats 2000000 in
theorem whyNoNew_any (A B C : Option Addr) (N c M d K e : Nat) (g : Gr) (t : Int) (w : World) (h : rGr (All w) w [.slice A N c, .slice B M d, .slice C K e] g) :
    Calls Tryz.prog 68 #[.agg #[.slice A N c, .slice B M d, .slice C K e], .int .i64 t] w fun e w' => e = .returned (.int .i64 (newE g t)) ∧ Below w.heap.size w w' := by
  have hB0 : Below w.heap.size w (w.alloc (.cells #[.slice A N c, .slice B M d, .slice C K e] 28)) := (Below.refl _ w).alloc (Nat.le_refl _) _
  have p1 := Blk.new w 28 [.slice A N c, .slice B M d, .slice C K e]
  obtain ⟨hN, hNc, hcm⟩ := slice_len (rGr_open h).1
  obtain ⟨hM, hMd, hdm⟩ := slice_len (rGr_open h).2.1
  have T1 := Lib.hid (gmay_any A B C N c M d K e g _ (gr_below hB0 h))
  have T2 := Lib.hid (fun W => isPlace_any t (N : Int) W)
  have T3 := Lib.hid (fun W (hW : Below w.heap.size w W) hm => nextId_any A B C N c M d K e g W (gr_below hW h) hm)
  have Hv : Hid (newE g t = if mayG g = true then if (decide (0 ≤ t) && decide (t < (g.1.length : Int))) = true then if g.2.1.length = 8 ∨ 1073741824 < nextG g.2.1 then 8 else 0 else 6 else 1) := Lib.hid rfl
  rw [hN, hM] at Hv
  have HB0 := Lib.hid hB0
  clear h hB0
  generalize newE g t = r at *
  generalize nextG g.2.1 = nx at *
  generalize hmg : mayG g = m1 at *
  generalize (decide (0 ≤ t) && decide (t < (N : Int))) = m2 at *
  go_enter Tryz.func68, Tryz.ntmps68
  go_wp2_with fail
  refine T1.out.mono ?_
  rintro e w1 ⟨rfl, hB1⟩
  have H1 := Lib.hid (HB0.out.trans (hB1.mono HB0.out.size))
  replace p1 := p1.to hB1
  clear hB1 HB0 T1
  cases m1
  · rw [if_neg (by simp)] at Hv
    go_wp2
    go_ret
    exact ⟨by rw [Hv.out]; rfl, H1.out⟩
  rw [if_pos rfl] at Hv
  have c0 := p1.cell (j := 0) rfl
  have c1 := p1.cell (j := 1) rfl
  have c2 := p1.cell (j := 2) rfl
  go_wp2_with fail
  refine (T2.out _).mono ?_
  rintro e w2 ⟨rfl, rfl⟩
  cases m2
  · rw [if_neg (by simp)] at Hv
    go_wp2
    go_ret
    exact ⟨by rw [Hv.out]; rfl, H1.out⟩
  rw [if_pos rfl] at Hv
  by_cases h8 : M = 8
  · rw [if_pos (.inl h8)] at Hv
    subst h8
    go_wp2
    go_ret
    exact ⟨by rw [Hv.out]; rfl, H1.out⟩
  · have h8' : ((M : Int) == 8) = false := by rw [beq_eq_false_iff_ne]; omega
    have HM := Lib.hid h8
    clear h8
    go_wp2_with fail
    refine (T3.out _ H1.out (by trivial)).mono ?_
    rintro e w3 ⟨rfl, hB3⟩
    have H3 := Lib.hid (H1.out.trans (hB3.mono H1.out.size))
    by_cases hx : 1073741824 < nx
    · rw [if_pos (.inr hx)] at Hv
      have hx' : decide ((1073741824 : Int) < nx) = true := decide_eq_true hx
      clear hx
      go_wp2
      go_ret
      exact ⟨by rw [Hv.out]; rfl, H3.out⟩
    · rw [if_neg (by have := HM.out; omega)] at Hv
      have hx' : decide ((1073741824 : Int) < nx) = false := decide_eq_false hx
      clear hx
      go_wp2
      go_ret
      exact ⟨by rw [Hv.out]; rfl, H3.out⟩

end Go.Proofs.YtnmgdaaddfdffaaGreatDoor
