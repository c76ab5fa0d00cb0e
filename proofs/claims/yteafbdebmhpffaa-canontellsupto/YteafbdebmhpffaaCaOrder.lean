/- The contract of canon's Order: the document's one. No condition. -/
import Derived.Test.YteafbdebmhpffaaCaMeetAll
namespace Go.Proofs.Yteafbdebmhpffaa
open Go.RowKit Go.Maps

theorem ordG_no {g : Gr} (h : mayG g = false) : ordG g = [] := by rw [ordG, if_neg (by rw [h]; decide)]
theorem ordG_wf {g : Gr} : ∀ x ∈ ordG g, (Lit.int .i64 x).wf = true := fun x hx => by
  by_cases hm : mayG g = true
  · obtain ⟨o, ho, rfl⟩ := ordG_ids hm x hx
    have := (mayG_obj hm ho).id0
    have := (mayG_obj hm ho).id1
    exact WalkArith.wf_i64 ⟨by omega, by omega⟩
  · rw [ordG_no (by simpa using hm)] at hx
    cases hx

set_option maxRecDepth 100000 in
set_option maxHeartbeats 1000000 in
theorem order_any (A B C : Option Addr) (N c M d K e : Nat) (g : Gr) (w : World) (h : rGr (All w) w [.slice A N c, .slice B M d, .slice C K e] g) :
    Calls Try.prog 13 #[.agg #[.slice A N c, .slice B M d, .slice C K e]] w fun e w' => ∃ A1 c1, e = .returned (.slice A1 (ordG g).length c1) ∧ rIds (fun b => w.heap.size ≤ b ∧ b < w'.heap.size) w' [.slice A1 (ordG g).length c1] (ordG g) ∧ Below w.heap.size w w' := by
  have hB0 : Below w.heap.size w (w.alloc (.cells #[.slice A N c, .slice B M d, .slice C K e] 28)) := (Below.refl _ w).alloc (Nat.le_refl _) _
  have p1 := Blk.new w 28 [.slice A N c, .slice B M d, .slice C K e]
  have T1 := Lib.hid (gmay_any A B C N c M d K e g _ (gr_below hB0 h))
  have HB0 := Lib.hid hB0
  clear hB0
  go_enter Try.func13, Try.ntmps13
  go_wp2_with fail
  refine T1.out.mono ?_
  rintro e w1 ⟨rfl, hB1⟩
  have H1 := Lib.hid (HB0.out.trans (hB1.mono HB0.out.size))
  have s1 := H1.out.size
  replace p1 := p1.to hB1
  clear hB1 HB0 T1
  by_cases hm : mayG g = true
  · rw [hm]
    have T2 := Lib.hid (meet_any A B C N c M d K e g w1 hm (gr_below H1.out h))
    clear h
    have c0 := p1.cell (j := 0) rfl
    have c1 := p1.cell (j := 1) rfl
    have c2 := p1.cell (j := 2) rfl
    go_wp2_with fail
    refine T2.out.mono ?_
    rintro e w2 ⟨A3, c3, Mb, rfl, hown2, -, -, hB2⟩
    have hr := Lib.hid (rIds_stays.to (S' := fun b => w.heap.size ≤ b ∧ b < w2.heap.size) (Keeps.mono fun b hb => ⟨by omega, hb.2⟩) (ids_own hown2 rfl ordG_wf))
    clear hown2
    go_wp2
    go_ret
    exact ⟨A3, c3, rfl, hr.out, H1.out.trans (hB2.mono H1.out.size)⟩
  · replace hm : mayG g = false := by simpa using hm
    rw [hm]
    go_wp2
    go_ret
    rw [ordG_no hm]
    exact ⟨none, 0, rfl, ⟨none, 0, [], rfl, Nat.le_refl _, Nat.zero_le _, .inl rfl, Chunks.nil⟩, H1.out⟩
end Go.Proofs.Yteafbdebmhpffaa
