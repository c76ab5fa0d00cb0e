/- The contract of graph's copyGraph: what is answered shares nothing with anything. Condition: sizes that memory can hold. -/
import Derived.Test.YteafbdebmhpffaaGrCopyOAll
import Derived.Test.YteafbdebmhpffaaGrOwn
namespace Go.Proofs.Yteafbdebmhpffaa
open Go.RowKit

/-- Sizes that memory can hold. -/
def tameG (g : Gr) : Prop := (g.1.length ≤ 7036874417766 ∧ ∀ t ∈ g.1, t.1.length ≤ 281474976710656 ∧ t.2.length ≤ 7036874417766 ∧ ∀ f ∈ t.2, f.1.length ≤ 281474976710656 ∧ f.2.2.length ≤ 281474976710656) ∧
  (g.2.1.length ≤ 7036874417766 ∧ ∀ o ∈ g.2.1, o.2.2.length ≤ 7036874417766 ∧ ∀ v ∈ o.2.2, v.2.1.length ≤ 281474976710656) ∧ g.2.2.length ≤ 17592186044416

set_option maxRecDepth 100000 in
set_option maxHeartbeats 1000000 in
theorem copyGraph_any (A B C : Option Addr) (N c M d K e : Nat) (g : Gr) (w : World) (h : rGr (All w) w [.slice A N c, .slice B M d, .slice C K e] g) (ht : tameG g) :
    Calls Try.prog 47 #[.agg #[.slice A N c, .slice B M d, .slice C K e]] w fun e w' => ∃ b1 b2 m A3 c3, e = .returned (.agg #[.slice (some ⟨b1, 0, none⟩) N N, .slice (some ⟨b2, 0, none⟩) M M, .slice A3 K c3]) ∧ OwnG w.heap.size w' g b1 b2 m (.slice A3 K c3) ∧ Below w.heap.size w w' := by
  obtain ⟨hN, hNc, hcm⟩ := slice_len (rGr_open h).1
  obtain ⟨hM, hMd, hdm⟩ := slice_len (rGr_open h).2.1
  obtain ⟨hK, hKe, hem⟩ := slice_len (rGr_open h).2.2
  have hwf := (ids_rd (rGr_open h).2.2).2
  obtain ⟨p1, p2⟩ := blk_two w 28 28 [.slice A N c, .slice B M d, .slice C K e] [.slice none 0 0, .slice none 0 0, .slice none 0 0]
  have hB0 : Below w.heap.size w ((w.alloc (.cells #[.slice A N c, .slice B M d, .slice C K e] 28)).alloc (.cells #[.slice none 0 0, .slice none 0 0, .slice none 0 0] 28)) := ((Below.refl _ w).alloc (Nat.le_refl _) _).alloc (by simp) _
  have T1 := Lib.hid (fun W (hW : Below w.heap.size w W) => eachT_any A N c g.1 W (sch_below hW (rGr_open h).1) (hN ▸ ht.1.1) ht.1.2)
  have T2 := Lib.hid (fun W (hW : Below w.heap.size w W) => eachO_any B M d g.2.1 W (obs_below hW (rGr_open h).2.1) (hM ▸ ht.2.1.1) ht.2.1.2)
  have T3 := Lib.hid (fun W (hW : Below w.heap.size w W) => iclone_any C K e g.2.2 W (ids_below hW (rGr_open h).2.2) (hK ▸ ht.2.2))
  have S0 := And.intro (p1.cell (j := 0) rfl) (And.intro (p1.cell (j := 1) rfl) (p1.cell (j := 2) rfl))
  have l1 := p1.lt
  have s0 : ((w.alloc (.cells #[.slice A N c, .slice B M d, .slice C K e] 28)).alloc (.cells #[.slice none 0 0, .slice none 0 0, .slice none 0 0] 28)).heap.size = w.heap.size + 2 := by simp
  have HB0 := Lib.hid hB0
  have P2 := Lib.hid p2
  clear p1 p2 hB0
  go_enter Try.func47, Try.ntmps47
  go_wp2
  generalize (w.alloc (.cells #[.slice A N c, .slice B M d, .slice C K e] 28)).alloc (.cells #[.slice none 0 0, .slice none 0 0, .slice none 0 0] 28) = w0 at *
  refine sch_start [(0, true), (1, true), (2, true), (5, true), (6, true), (8, true), (9, true), (3, false), (4, true), (7, false), (10, false), (11, true), (12, false)]
    (fun W => W.cell? ⟨w.heap.size, 0, none⟩ = some (.slice A N c) ∧ W.cell? ⟨w.heap.size, 1, none⟩ = some (.slice B M d) ∧ W.cell? ⟨w.heap.size, 2, none⟩ = some (.slice C K e)) (by kernel_rfl) rfl (by kernel_rfl) (fun _ _ _ _ _ h => h) S0 (fun hH => ?_)
  have hC0 : Below w0.heap.size w0 w0.drew := (Below.refl w0.heap.size w0).drew
  have hd0 : w0.drew.heap.size = w.heap.size + 2 := s0
  repeat (first | (refine sch_yes (v := ?_) rfl rfl ?_ hH ?_; rotate_left; (focus ((rintro W ⟨hW0, hW1, hW2⟩; go_simp) <;> with_reducible rfl)); simp only [Act.put, List.setIfInBounds_toArray, List.set_cons_zero, List.set_cons_succ]) | (refine sch_no rfl rfl hH ?_; simp only [Act.put, List.setIfInBounds_toArray, List.set_cons_zero, List.set_cons_succ]))
  refine sch_call rfl rfl (fun K' hK' => ?_)
  go_wp2_with (go_at_call 70; refine (T1.out _ (HB0.out.trans (hC0.mono HB0.out.size))).mono ?_; rintro e w1 ⟨cs1, rfl, hb1, hch1, hB1⟩)
  have hC1 : Below w0.heap.size w0 w1 := hC0.trans (hB1.mono hC0.size)
  rw [hd0] at hb1 hch1
  have S1 := And.intro ((hC1.cell (p := ⟨w.heap.size, 0, none⟩) l1).trans S0.1) (And.intro ((hC1.cell (p := ⟨w.heap.size, 1, none⟩) l1).trans S0.2.1) ((hC1.cell (p := ⟨w.heap.size, 2, none⟩) l1).trans S0.2.2))
  refine hK'.out _ _ S1 ?_
  clear hK' hH
  have hH := S1
  repeat (first | (refine sch_yes (v := ?_) rfl rfl ?_ hH ?_; rotate_left; (focus ((rintro W ⟨hW0, hW1, hW2⟩; go_simp) <;> with_reducible rfl)); simp only [Act.put, List.setIfInBounds_toArray, List.set_cons_zero, List.set_cons_succ]) | (refine sch_no rfl rfl hH ?_; simp only [Act.put, List.setIfInBounds_toArray, List.set_cons_zero, List.set_cons_succ]))
  refine sch_call rfl rfl (fun K' hK' => ?_)
  go_wp2_with (go_at_call 72; refine (T2.out _ (HB0.out.trans (hC1.mono HB0.out.size))).mono ?_; rintro e w2 ⟨cs2, rfl, hb2, hch2, hB2⟩)
  have hC2 : Below w0.heap.size w0 w2 := hC1.trans (hB2.mono hC1.size)
  have S2 := And.intro ((hC2.cell (p := ⟨w.heap.size, 0, none⟩) l1).trans S0.1) (And.intro ((hC2.cell (p := ⟨w.heap.size, 1, none⟩) l1).trans S0.2.1) ((hC2.cell (p := ⟨w.heap.size, 2, none⟩) l1).trans S0.2.2))
  refine hK'.out _ _ S2 ?_
  clear hK' hH
  have hH := S2
  repeat (first | (refine sch_yes (v := ?_) rfl rfl ?_ hH ?_; rotate_left; (focus ((rintro W ⟨hW0, hW1, hW2⟩; go_simp) <;> with_reducible rfl)); simp only [Act.put, List.setIfInBounds_toArray, List.set_cons_zero, List.set_cons_succ]) | (refine sch_no rfl rfl hH ?_; simp only [Act.put, List.setIfInBounds_toArray, List.set_cons_zero, List.set_cons_succ]))
  refine sch_call rfl rfl (fun K' hK' => ?_)
  go_wp2_with (go_at_call 74; refine (T3.out _ (HB0.out.trans (hC2.mono HB0.out.size))).mono ?_; rintro e w3 ⟨A3, c3, rfl, hown3, hB3⟩)
  have hC3 : Below w0.heap.size w0 w3 := hC2.trans (hB3.mono hC2.size)
  have hG := OwnG.make (H := w.heap.size + 2) (g := g) (Nat.le_refl _) hb1 hch1 hB2 hb2 hch2 hB3 (by rw [hK]; exact hown3) hwf (by omega) (by omega)
  have HG := Lib.hid hG
  clear hb1 hch1 hb2 hch2 hown3 hG
  have S3 := And.intro ((hC3.cell (p := ⟨w.heap.size, 0, none⟩) l1).trans S0.1) (And.intro ((hC3.cell (p := ⟨w.heap.size, 1, none⟩) l1).trans S0.2.1) ((hC3.cell (p := ⟨w.heap.size, 2, none⟩) l1).trans S0.2.2))
  refine hK'.out _ _ S3 ?_
  clear hK' hH
  have hH := S3
  repeat (first | (refine sch_yes (v := ?_) rfl rfl ?_ hH ?_; rotate_left; (focus ((rintro W ⟨hW0, hW1, hW2⟩; go_simp) <;> with_reducible rfl)); simp only [Act.put, List.setIfInBounds_toArray, List.set_cons_zero, List.set_cons_succ]) | (refine sch_no rfl rfl hH ?_; simp only [Act.put, List.setIfInBounds_toArray, List.set_cons_zero, List.set_cons_succ]))
  refine sch_call rfl rfl (fun K' hK' => ?_)
  have P3 : Blk w3 (w.heap.size + 1) 28 [.slice none 0 0, .slice none 0 0, .slice none 0 0] := P2.out.to hC3
  have f0 := P3.frozen 0
  have d0 := P3.cell (j := 0) rfl
  have f1 := P3.frozen 1
  have d1 := P3.cell (j := 1) rfl
  have f2 := P3.frozen 2
  have d2 := P3.cell (j := 2) rfl
  go_wp2
  have P4 := (((P3).set 0 (.slice (some ⟨w.heap.size + 2, 0, none⟩) N N)).set 1 (.slice (some ⟨w1.heap.size, 0, none⟩) M M)).set 2 (.slice A3 K c3)
  refine hK'.out _ _ (And.intro (far3 S3.1 (by omega)) (And.intro (far3 S3.2.1 (by omega)) (far3 S3.2.2 (by omega)))) ?_
  clear hK' hH
  refine sch_done ?_
  go_wp2
  refine ret_cell0 (d := .struct _) (cs := [.slice (some ⟨w.heap.size + 2, 0, none⟩) N N, .slice (some ⟨w1.heap.size, 0, none⟩) M M, .slice A3 K c3]) rfl P4 rfl rfl rfl rfl rfl ?_
  have hBend := ((((HB0.out.trans (hC3.mono HB0.out.size)).setCell (p := ⟨w.heap.size + 1, 0, none⟩) (by simp) (.slice (some ⟨w.heap.size + 2, 0, none⟩) N N)).setCell (p := ⟨w.heap.size + 1, 1, none⟩) (by simp) (.slice (some ⟨w1.heap.size, 0, none⟩) M M)).setCell (p := ⟨w.heap.size + 1, 2, none⟩) (by simp) (.slice A3 K c3))
  refine ⟨w.heap.size + 2, w1.heap.size, w2.heap.size, A3, c3, rfl, (HG.out.keep (by simp) fun b hb _ => ?_).lower (by omega), hBend⟩
  rw [Below.heap_setCell _ _ _ _ (by show b ≠ w.heap.size + 1; omega), Below.heap_setCell _ _ _ _ (by show b ≠ w.heap.size + 1; omega), Below.heap_setCell _ _ _ _ (by show b ≠ w.heap.size + 1; omega)]
end Go.Proofs.Yteafbdebmhpffaa
