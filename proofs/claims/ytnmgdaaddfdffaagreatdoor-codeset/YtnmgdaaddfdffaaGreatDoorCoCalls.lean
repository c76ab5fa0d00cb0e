/- The contracts of code's Put and Sum, whole: the bytes, or the sum, and OK; or why there are none. Condition: the table of kinds' texts is laid. -/
import Derived.Test.YtnmgdaaddfdffaaGreatDoorCoPut
namespace Go.Proofs.YtnmgdaaddfdffaaGreatDoor
open Go.RowKit

set_option maxRecDepth 100000 in
theorem put1_any (A B C : Option Addr) (N c M d K e : Nat) (g : Gr) (k : Nat) (w : World) (hKt : Kt w) (hb : Blk w k 28 [.slice A N c, .slice B M d, .slice C K e]) (h : rGr (All w) w [.slice A N c, .slice B M d, .slice C K e] g) :
    Calls Tryz.prog 34 #[.pointer (some ⟨k, 0, none⟩)] w fun r w' => Below w.heap.size w w' ∧ ((∃ v, r = .returned v ∧ codeE g = 0 ∧ Byts (codeB g) v w') ∨ ∃ n, r = Wrong n ∧ codeE g ≠ 0 ∧ n = codeE g) := by
  have T1 := Lib.hid (write_any A B C N c M d K e g w hKt h)
  have a0 := hb.cell (j := 0) rfl
  have a1 := hb.cell (j := 1) rfl
  have a2 := hb.cell (j := 2) rfl
  clear h hKt hb
  go_enter Tryz.func34, Tryz.ntmps34
  go_wp2_with fail
  refine T1.out.mono ?_
  rintro r w1 ⟨hB1, ⟨v, rfl, h0, hv⟩ | ⟨n, rfl, h0, hn⟩⟩
  · have Hc := Lib.hid h0
    have Hv := Lib.hid hv
    have HB := Lib.hid hB1
    clear h0 hv hB1 T1 a0 a1 a2
    go_wp2
    go_ret
    exact ⟨HB.out, .inl ⟨_, rfl, Hc.out, Hv.out⟩⟩
  · have Hc := Lib.hid h0
    have Hn := Lib.hid hn
    have HB := Lib.hid hB1
    clear h0 hn hB1 T1 a0 a1 a2
    unfold Wrong
    go_wp2_with fail
    exact ⟨rfl, HB.out, .inr ⟨_, rfl, Hc.out, Hn.out⟩⟩

set_option maxRecDepth 100000 in
theorem sum2_any (A B C : Option Addr) (N c M d K e : Nat) (g : Gr) (k : Nat) (w : World) (hKt : Kt w) (hb : Blk w k 28 [.slice A N c, .slice B M d, .slice C K e]) (h : rGr (All w) w [.slice A N c, .slice B M d, .slice C K e] g) :
    Calls Tryz.prog 46 #[.pointer (some ⟨k, 0, none⟩)] w fun r w' => Below w.heap.size w w' ∧ ((∃ v, r = .returned v ∧ codeE g = 0 ∧ v = .int .u32 (codeS g : Int)) ∨ ∃ n, r = Wrong n ∧ codeE g ≠ 0 ∧ n = codeE g) := by
  have T1 := Lib.hid (sum1_any A B C N c M d K e g w hKt h)
  have a0 := hb.cell (j := 0) rfl
  have a1 := hb.cell (j := 1) rfl
  have a2 := hb.cell (j := 2) rfl
  clear h hKt hb
  go_enter Tryz.func46, Tryz.ntmps46
  go_wp2_with fail
  refine T1.out.mono ?_
  rintro r w1 ⟨hB1, ⟨v, rfl, h0, hv⟩ | ⟨n, rfl, h0, hn⟩⟩
  · have Hc := Lib.hid h0
    have Hv := Lib.hid hv
    have HB := Lib.hid hB1
    clear h0 hv hB1 T1 a0 a1 a2
    go_wp2
    go_ret
    exact ⟨HB.out, .inl ⟨_, rfl, Hc.out, Hv.out⟩⟩
  · have Hc := Lib.hid h0
    have Hn := Lib.hid hn
    have HB := Lib.hid hB1
    clear h0 hn hB1 T1 a0 a1 a2
    unfold Wrong
    go_wp2_with fail
    exact ⟨rfl, HB.out, .inr ⟨_, rfl, Hc.out, Hn.out⟩⟩

theorem codeB_no {g : Gr} (h : codeE g ≠ 0) : codeB g = [] := if_neg h
theorem codeS_no {g : Gr} (h : codeE g ≠ 0) : codeS g = 0 := if_neg h

set_option maxRecDepth 100000 in
theorem cput_any (A B C : Option Addr) (N c M d K e : Nat) (g : Gr) (w : World) (hKt : Kt w) (h : rGr (All w) w [.slice A N c, .slice B M d, .slice C K e] g) :
    Calls Tryz.prog 12 #[.agg #[.slice A N c, .slice B M d, .slice C K e]] w fun r w' => ∃ B1 m cap, r = .returned (.tuple #[.slice B1 m cap, .int .i64 (codeE g)]) ∧ m = (codeB g).length ∧ m ≤ cap ∧ cap ≤ maxLen ∧ Rd w' B1 (u8s (codeB g)) ∧ Below w.heap.size w w' := by
  have hmf : ∀ (fn : Fn) (first cap : Array Value) (w : World), (Instr.makeFunc fn first cap).run Tryz.prog w = .ok (.func fn first cap) w := fun _ _ _ _ => rfl
  have hB0 : Below w.heap.size w (w.alloc (.cells #[.slice A N c, .slice B M d, .slice C K e] 28)) := (Below.refl _ w).alloc (Nat.le_refl _) _
  have p0 := Blk.new w 28 [.slice A N c, .slice B M d, .slice C K e]
  have T1 := Lib.hid (answerB_any (Good := fun v w' => codeE g = 0 ∧ Byts (codeB g) v w') (Bad := fun n => codeE g ≠ 0 ∧ n = codeE g) w.heap.size (w.alloc (.cells #[.slice A N c, .slice B M d, .slice C K e] 28)) (fun W hW => put1_any A B C N c M d K e g _ W (hKt.below (hB0.trans (hW.mono hB0.size))) (p0.to hW) (gr_below hW (gr_below hB0 h))))
  have H0 := Lib.hid hB0
  clear h hKt hB0 p0
  go_enter Tryz.func12, Tryz.ntmps12
  go_wp2_with fail
  refine T1.out.mono ?_
  rintro r w1 ⟨hB1, ⟨v, rfl, h0, A1, m, c1, rfl, hm, hmc, hcm, hr⟩ | ⟨n, rfl, h0, rfl⟩⟩
  · have HX := Lib.hid (And.intro hm (And.intro hmc (And.intro hcm (And.intro hr (H0.out.trans (hB1.mono H0.out.size))))))
    have Hc := Lib.hid h0
    clear h0 hB1 T1 hm hmc hcm hr
    go_wp2
    go_ret2
    exact ⟨A1, m, c1, (show Ending.returned (.tuple #[.slice A1 m c1, .int .i64 0]) = _ by rw [Hc.out]), HX.out⟩
  · have Hb := Lib.hid (codeB_no h0)
    have HB := Lib.hid (H0.out.trans (hB1.mono H0.out.size))
    clear h0 hB1 T1
    go_wp2
    go_ret2
    exact ⟨none, 0, 0, rfl, by rw [Hb.out]; rfl, Nat.le_refl _, by simp [maxLen], by rw [Hb.out]; exact .inl rfl, HB.out⟩

set_option maxRecDepth 100000 in
theorem csum_any (A B C : Option Addr) (N c M d K e : Nat) (g : Gr) (w : World) (hKt : Kt w) (h : rGr (All w) w [.slice A N c, .slice B M d, .slice C K e] g) :
    Calls Tryz.prog 16 #[.agg #[.slice A N c, .slice B M d, .slice C K e]] w fun r w' => r = .returned (.tuple #[.int .u32 (codeS g : Int), .int .i64 (codeE g)]) ∧ Below w.heap.size w w' := by
  have hmf : ∀ (fn : Fn) (first cap : Array Value) (w : World), (Instr.makeFunc fn first cap).run Tryz.prog w = .ok (.func fn first cap) w := fun _ _ _ _ => rfl
  have hB0 : Below w.heap.size w (w.alloc (.cells #[.slice A N c, .slice B M d, .slice C K e] 28)) := (Below.refl _ w).alloc (Nat.le_refl _) _
  have p0 := Blk.new w 28 [.slice A N c, .slice B M d, .slice C K e]
  have T1 := Lib.hid (answerU_any (Good := fun v w' => codeE g = 0 ∧ v = .int .u32 (codeS g : Int)) (Bad := fun n => codeE g ≠ 0 ∧ n = codeE g) w.heap.size (w.alloc (.cells #[.slice A N c, .slice B M d, .slice C K e] 28)) (fun W hW => sum2_any A B C N c M d K e g _ W (hKt.below (hB0.trans (hW.mono hB0.size))) (p0.to hW) (gr_below hW (gr_below hB0 h))))
  have H0 := Lib.hid hB0
  clear h hKt hB0 p0
  go_enter Tryz.func16, Tryz.ntmps16
  go_wp2_with fail
  refine T1.out.mono ?_
  rintro r w1 ⟨hB1, ⟨v, rfl, h0, rfl⟩ | ⟨n, rfl, h0, rfl⟩⟩
  · have HB := Lib.hid (H0.out.trans (hB1.mono H0.out.size))
    have Hc := Lib.hid h0
    clear h0 hB1 T1
    go_wp2
    go_ret2
    exact ⟨(show Ending.returned (.tuple #[.int .u32 (codeS g : Int), .int .i64 0]) = _ by rw [Hc.out]), HB.out⟩
  · have Hb := Lib.hid (codeS_no h0)
    have HB := Lib.hid (H0.out.trans (hB1.mono H0.out.size))
    clear h0 hB1 T1
    go_wp2
    go_ret2
    exact ⟨(show Ending.returned (.tuple #[.int .u32 0, .int .i64 (codeE g)]) = _ by rw [Hb.out]; rfl), HB.out⟩
end Go.Proofs.YtnmgdaaddfdffaaGreatDoor
