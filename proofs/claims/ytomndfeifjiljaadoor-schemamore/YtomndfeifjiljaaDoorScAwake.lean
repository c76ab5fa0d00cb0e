/- The contract of the laws' own 'awake' (the chapter's example): it returns true, and changes nothing that was there. Condition: the table of kinds lies as the program's text lays it. -/
import Derived.Test.YtomndfeifjiljaaDoorScRead
import Derived.Test.YtomndfeifjiljaaDoorScSame
import Derived.Test.YtomndfeifjiljaaDoorScOne
import Derived.Test.YtomndfeifjiljaaDoorSched
namespace Go.Proofs.YtomndfeifjiljaaDoor
open Go.RowKit

theorem one_text : byt ⟨#[97, 123, 110, 58, 105, 51, 50, 44, 111, 58, 42, 97, 125]⟩ = [97, 123, 110, 58, 105, 51, 50, 44, 111, 58, 42, 97, 125] := rfl
theorem one_may : mayS oneS = true := by decide +kernel
theorem one_is : textS oneS = [97, 123, 110, 58, 105, 51, 50, 44, 111, 58, 42, 97, 125] := by decide +kernel
theorem one_reads : readS [97, 123, 110, 58, 105, 51, 50, 44, 111, 58, 42, 97, 125] = some oneS := (readS_iff _ _).2 ⟨one_may, by rw [← textS_may one_may]; exact one_is⟩
theorem one_find : findS oneS [97] = 0 := by decide +kernel
theorem one_field : fieldS [([110], 2, []), ([111], 5, [97])] [111] = 1 := by decide +kernel
theorem sread_one (w : World) (hK : Kt w) : Calls Tryd.prog 11 #[.string ⟨#[97, 123, 110, 58, 105, 51, 50, 44, 111, 58, 42, 97, 125]⟩] w fun e w' => ∃ A c, e = .returned (.tuple #[.agg #[.slice A 1 c], .bool true]) ∧ rSch (All w') w' [.slice A 1 c] oneS ∧ Below w.heap.size w w' :=
  (read_any _ w hK (by decide)).mono fun e w' ⟨A, n, c, b, he, hi, hB⟩ => by
    rw [one_text, one_reads] at hi
    obtain ⟨rfl, hn, hr, _⟩ := hi
    have hn1 : n = 1 := hn
    subst hn1
    exact ⟨A, c, he, rSch_stays.to (Keeps.mono fun b hb => hb.2) hr, hB⟩
theorem stext_one (A : Option Addr) (c : Nat) (w : World) (hK : Kt w) (h : rSch (All w) w [.slice A 1 c] oneS) : Calls Tryd.prog 19 #[.agg #[.slice A 1 c]] w fun e w' => e = .returned (.string ⟨#[97, 123, 110, 58, 105, 51, 50, 44, 111, 58, 42, 97, 125]⟩) ∧ Below w.heap.size w w' :=
  (text_any A 1 c oneS w hK h).mono fun e w' ⟨r, he, hr, _, hB⟩ => by
    rw [one_is, ← one_text] at hr
    rw [byt_inj hr] at he
    exact ⟨he, hB⟩
theorem smay_one (A : Option Addr) (c : Nat) (w : World) (h : rSch (All w) w [.slice A 1 c] oneS) : Calls Tryd.prog 17 #[.agg #[.slice A 1 c]] w fun e w' => e = .returned (.bool true) ∧ Below w.heap.size w w' := by
  have := may_any A 1 c oneS w h
  rw [one_may] at this
  exact this
theorem ssame_one (A B : Option Addr) (c d : Nat) (w : World) (h : rSch (All w) w [.slice A 1 c] oneS) (h' : rSch (All w) w [.slice B 1 d] oneS) : Calls Tryd.prog 18 #[.agg #[.slice A 1 c], .agg #[.slice B 1 d]] w fun e w' => e = .returned (.bool true) ∧ Below w.heap.size w w' := by
  have := same_any A B 1 c 1 d oneS oneS w h h'
  rw [decide_eq_true rfl] at this
  exact this
theorem sfind_one (A : Option Addr) (c : Nat) (w : World) (h : rSch (All w) w [.slice A 1 c] oneS) : Calls Tryd.prog 21 #[.agg #[.slice A 1 c], .string ⟨#[97]⟩] w fun e w' => e = .returned (.int .i64 0) ∧ Below w.heap.size w w' := by
  have := find_any A 1 c oneS ⟨#[97]⟩ w h
  rw [show byt ⟨#[97]⟩ = [97] from rfl, one_find] at this
  exact this
theorem sfield_one (s : ByteArray) (A : Option Addr) (c : Nat) (w : World) (h : rFlds (All w) w [.slice A 2 c] [([110], 2, []), ([111], 5, [97])]) : Calls Tryd.prog 15 #[.agg #[.string s, .slice A 2 c], .string ⟨#[111]⟩] w fun e w' => e = .returned (.int .i64 1) ∧ Below w.heap.size w w' := by
  have := field_any s A 2 c [([110], 2, []), ([111], 5, [97])] ⟨#[111]⟩ w h
  rw [show byt ⟨#[111]⟩ = [111] from rfl, one_field] at this
  exact this

set_option maxRecDepth 100000 in
set_option maxHeartbeats 2000000 in
theorem sawake_any (w : World) (hKt : Kt w) : Calls Tryd.prog 9 #[] w fun e w' => e = .returned (.bool true) ∧ Below w.heap.size w w' := by
  go_enter Tryd.func9, Tryd.ntmps9
  go_wp2_with fail
  refine (sread_one w hKt).mono ?_
  rintro e w0 ⟨A0, c0, rfl, hs0, hB0⟩
  have hB1 : Below w.heap.size w (w0.alloc (.cells #[.slice A0 1 c0] 24)) := hB0.alloc hB0.size _
  have hs1 := sch_below ((Below.refl w0.heap.size w0).alloc (Nat.le_refl _) (.cells #[.slice A0 1 c0] 24)) hs0
  have b1 := Blk.new w0 24 [.slice A0 1 c0]
  have hx := b1.cell (j := 0) rfl
  have hlt := b1.lt
  have hKt1 := hKt.below hB1
  clear hKt hs0 hB0 b1
  go_wp2_with fail
  generalize w0.alloc (.cells #[.slice A0 1 c0] 24) = w1 at *
  refine sch_start [(0, true), (1, true), (2, true), (3, false), (4, false), (5, true), (6, true), (7, false), (8, false), (9, true), (10, true), (11, true), (12, false), (13, false), (14, true), (15, true), (16, false), (17, false), (18, true), (19, true), (20, true), (21, false), (22, true), (23, true), (24, true), (25, false), (26, true), (27, true), (28, true)]
    (fun W => W.cell? ⟨w0.heap.size, 0, none⟩ = some (.slice A0 1 c0)) (by kernel_rfl) rfl (by kernel_rfl) (fun _ _ _ _ _ h => h) hx (fun hH => ?_)
  repeat (first | (refine sch_yes (v := ?_) rfl rfl ?_ hH ?_; rotate_left; (focus ((intro W hW; go_simp) <;> with_reducible rfl)); simp only [Act.put, List.setIfInBounds_toArray, List.set_cons_zero, List.set_cons_succ]) | (refine sch_no rfl rfl hH ?_; simp only [Act.put, List.setIfInBounds_toArray, List.set_cons_zero, List.set_cons_succ]))
  refine sch_call rfl rfl (fun K hK => ?_)
  go_wp2_with (go_at_call 23; refine (sone_any _).mono ?_; rintro e w2 ⟨A2, c2, rfl, hs2, hC2⟩)
  have hD2 : Below w1.heap.size w1 w2 := (Below.refl w1.heap.size w1).drew.trans hC2
  refine hK.out _ _ ((hD2.cell (p := ⟨w0.heap.size, 0, none⟩) hlt).trans hx) ?_
  clear hK hH
  have hH := (hD2.cell (p := ⟨w0.heap.size, 0, none⟩) hlt).trans hx
  repeat (first | (refine sch_yes (v := ?_) rfl rfl ?_ hH ?_; rotate_left; (focus ((intro W hW; go_simp) <;> with_reducible rfl)); simp only [Act.put, List.setIfInBounds_toArray, List.set_cons_zero, List.set_cons_succ]) | (refine sch_no rfl rfl hH ?_; simp only [Act.put, List.setIfInBounds_toArray, List.set_cons_zero, List.set_cons_succ]))
  refine sch_call rfl rfl (fun K hK => ?_)
  go_wp2_with (go_at_call 18; refine (ssame_one A0 A2 c0 c2 w2 (sch_below hD2 hs1) hs2).mono ?_; rintro e w3 ⟨rfl, hC3⟩)
  have hD3 : Below w1.heap.size w1 w3 := hD2.trans (hC3.mono hD2.size)
  refine hK.out _ _ ((hD3.cell (p := ⟨w0.heap.size, 0, none⟩) hlt).trans hx) ?_
  clear hK hH
  have hH := (hD3.cell (p := ⟨w0.heap.size, 0, none⟩) hlt).trans hx
  repeat (first | (refine sch_yes (v := ?_) rfl rfl ?_ hH ?_; rotate_left; (focus ((intro W hW; go_simp) <;> with_reducible rfl)); simp only [Act.put, List.setIfInBounds_toArray, List.set_cons_zero, List.set_cons_succ]) | (refine sch_no rfl rfl hH ?_; simp only [Act.put, List.setIfInBounds_toArray, List.set_cons_zero, List.set_cons_succ]))
  refine sch_call rfl rfl (fun K hK => ?_)
  go_wp2_with (go_at_call 23; refine (sone_any _).mono ?_; rintro e w4 ⟨A4, c4, rfl, hs4, hC4⟩)
  have hD4 : Below w1.heap.size w1 w4 := hD3.trans (hC4.mono hD3.size)
  refine hK.out _ _ ((hD4.cell (p := ⟨w0.heap.size, 0, none⟩) hlt).trans hx) ?_
  clear hK hH
  have hH := (hD4.cell (p := ⟨w0.heap.size, 0, none⟩) hlt).trans hx
  repeat (first | (refine sch_yes (v := ?_) rfl rfl ?_ hH ?_; rotate_left; (focus ((intro W hW; go_simp) <;> with_reducible rfl)); simp only [Act.put, List.setIfInBounds_toArray, List.set_cons_zero, List.set_cons_succ]) | (refine sch_no rfl rfl hH ?_; simp only [Act.put, List.setIfInBounds_toArray, List.set_cons_zero, List.set_cons_succ]))
  refine sch_call rfl rfl (fun K hK => ?_)
  go_wp2_with (go_at_call 19; refine (stext_one A4 c4 w4 (hKt1.below hD4) hs4).mono ?_; rintro e w5 ⟨rfl, hC5⟩)
  have hD5 : Below w1.heap.size w1 w5 := hD4.trans (hC5.mono hD4.size)
  refine hK.out _ _ ((hD5.cell (p := ⟨w0.heap.size, 0, none⟩) hlt).trans hx) ?_
  clear hK hH
  have hH := (hD5.cell (p := ⟨w0.heap.size, 0, none⟩) hlt).trans hx
  repeat (first | (refine sch_yes (v := ?_) rfl rfl ?_ hH ?_; rotate_left; (focus ((intro W hW; go_simp) <;> with_reducible rfl)); simp only [Act.put, List.setIfInBounds_toArray, List.set_cons_zero, List.set_cons_succ]) | (refine sch_no rfl rfl hH ?_; simp only [Act.put, List.setIfInBounds_toArray, List.set_cons_zero, List.set_cons_succ]))
  refine sch_call rfl rfl (fun K hK => ?_)
  go_wp2_with (go_at_call 23; refine (sone_any _).mono ?_; rintro e w6 ⟨A6, c6, rfl, hs6, hC6⟩)
  have hD6 : Below w1.heap.size w1 w6 := hD5.trans (hC6.mono hD5.size)
  refine hK.out _ _ ((hD6.cell (p := ⟨w0.heap.size, 0, none⟩) hlt).trans hx) ?_
  clear hK hH
  have hH := (hD6.cell (p := ⟨w0.heap.size, 0, none⟩) hlt).trans hx
  repeat (first | (refine sch_yes (v := ?_) rfl rfl ?_ hH ?_; rotate_left; (focus ((intro W hW; go_simp) <;> with_reducible rfl)); simp only [Act.put, List.setIfInBounds_toArray, List.set_cons_zero, List.set_cons_succ]) | (refine sch_no rfl rfl hH ?_; simp only [Act.put, List.setIfInBounds_toArray, List.set_cons_zero, List.set_cons_succ]))
  refine sch_call rfl rfl (fun K hK => ?_)
  go_wp2_with (go_at_call 17; refine (smay_one A6 c6 w6 hs6).mono ?_; rintro e w7 ⟨rfl, hC7⟩)
  have hD7 : Below w1.heap.size w1 w7 := hD6.trans (hC7.mono hD6.size)
  refine hK.out _ _ ((hD7.cell (p := ⟨w0.heap.size, 0, none⟩) hlt).trans hx) ?_
  clear hK hH
  have hH := (hD7.cell (p := ⟨w0.heap.size, 0, none⟩) hlt).trans hx
  repeat (first | (refine sch_yes (v := ?_) rfl rfl ?_ hH ?_; rotate_left; (focus ((intro W hW; go_simp) <;> with_reducible rfl)); simp only [Act.put, List.setIfInBounds_toArray, List.set_cons_zero, List.set_cons_succ]) | (refine sch_no rfl rfl hH ?_; simp only [Act.put, List.setIfInBounds_toArray, List.set_cons_zero, List.set_cons_succ]))
  refine sch_call rfl rfl (fun K hK => ?_)
  go_wp2_with (go_at_call 23; refine (sone_any _).mono ?_; rintro e w8 ⟨A8, c8, rfl, hs8, hC8⟩)
  have hD8 : Below w1.heap.size w1 w8 := hD7.trans (hC8.mono hD7.size)
  refine hK.out _ _ ((hD8.cell (p := ⟨w0.heap.size, 0, none⟩) hlt).trans hx) ?_
  clear hK hH
  have hH := (hD8.cell (p := ⟨w0.heap.size, 0, none⟩) hlt).trans hx
  repeat (first | (refine sch_yes (v := ?_) rfl rfl ?_ hH ?_; rotate_left; (focus ((intro W hW; go_simp) <;> with_reducible rfl)); simp only [Act.put, List.setIfInBounds_toArray, List.set_cons_zero, List.set_cons_succ]) | (refine sch_no rfl rfl hH ?_; simp only [Act.put, List.setIfInBounds_toArray, List.set_cons_zero, List.set_cons_succ]))
  refine sch_call rfl rfl (fun K hK => ?_)
  go_wp2_with (go_at_call 21; refine (sfind_one A8 c8 w8 hs8).mono ?_; rintro e w9 ⟨rfl, hC9⟩)
  have hD9 : Below w1.heap.size w1 w9 := hD8.trans (hC9.mono hD8.size)
  refine hK.out _ _ ((hD9.cell (p := ⟨w0.heap.size, 0, none⟩) hlt).trans hx) ?_
  clear hK hH
  have hH := (hD9.cell (p := ⟨w0.heap.size, 0, none⟩) hlt).trans hx
  repeat (first | (refine sch_yes (v := ?_) rfl rfl ?_ hH ?_; rotate_left; (focus ((intro W hW; go_simp) <;> with_reducible rfl)); simp only [Act.put, List.setIfInBounds_toArray, List.set_cons_zero, List.set_cons_succ]) | (refine sch_no rfl rfl hH ?_; simp only [Act.put, List.setIfInBounds_toArray, List.set_cons_zero, List.set_cons_succ]))
  refine sch_call rfl rfl (fun K hK => ?_)
  go_wp2_with (go_at_call 23; refine (sone_any _).mono ?_; rintro e w10 ⟨A10, c10, rfl, hs10, hC10⟩)
  have hD10 : Below w1.heap.size w1 w10 := hD9.trans (hC10.mono hD9.size)
  refine hK.out _ _ ((hD10.cell (p := ⟨w0.heap.size, 0, none⟩) hlt).trans hx) ?_
  clear hK
  obtain ⟨b, off, s, A, c, rfl, hb, hy1, hy2, _, _, hf⟩ := typ_at (i := 0) (t := ([97], [([110], 2, []), ([111], 5, [97])])) hs10 rfl
  simp only [Nat.zero_mul, Nat.add_zero] at hy1 hy2
  have hfld : ∀ W : World, (Instr.field 24 (.agg #[.slice (some ⟨b, off, none⟩) 1 c10]) 0).run Tryd.prog W = .ok (.slice (some ⟨b, off, none⟩) 1 c10) W := fun _ => by kernel_rfl
  have hy2' : w10.cell? ⟨b, off + 1, none⟩ = some (.slice A 2 c) := hy2
  refine sch_more (S' := fun W => W.cell? ⟨w0.heap.size, 0, none⟩ = some (.slice A0 1 c0) ∧ W.cell? ⟨b, off, none⟩ = some (.string s) ∧ W.cell? ⟨b, off + 1, none⟩ = some (.slice A 2 c)) (fun _ h => h.1) ?_
  clear hH hy2
  have hH := And.intro ((hD10.cell (p := ⟨w0.heap.size, 0, none⟩) hlt).trans hx) (And.intro hy1 hy2')
  repeat (first | (refine sch_yes (v := ?_) rfl rfl ?_ hH ?_; rotate_left; (focus ((rintro W ⟨hW1, hW2, hW3⟩; go_simp) <;> with_reducible rfl)); simp only [Act.put, List.setIfInBounds_toArray, List.set_cons_zero, List.set_cons_succ]) | (refine sch_no rfl rfl hH ?_; simp only [Act.put, List.setIfInBounds_toArray, List.set_cons_zero, List.set_cons_succ]))
  refine sch_call rfl rfl (fun K hK => ?_)
  go_wp2_with (go_at_call 15; refine (sfield_one s A c w10 hf).mono ?_; rintro e w11 ⟨rfl, hC11⟩)
  have hD11 : Below w1.heap.size w1 w11 := hD10.trans (hC11.mono hD10.size)
  refine hK.out _ _ ⟨(hD11.cell (p := ⟨w0.heap.size, 0, none⟩) hlt).trans hx, (hC11.cell (p := ⟨b, off, none⟩) hb).trans hy1, (hC11.cell (p := ⟨b, off + 1, none⟩) hb).trans hy2'⟩ ?_
  clear hK hH
  have hH := And.intro ((hD11.cell (p := ⟨w0.heap.size, 0, none⟩) hlt).trans hx) (And.intro ((hC11.cell (p := ⟨b, off, none⟩) hb).trans hy1) ((hC11.cell (p := ⟨b, off + 1, none⟩) hb).trans hy2'))
  repeat (first | (refine sch_yes (v := ?_) rfl rfl ?_ hH ?_; rotate_left; (focus ((rintro W ⟨hW1, hW2, hW3⟩; go_simp) <;> with_reducible rfl)); simp only [Act.put, List.setIfInBounds_toArray, List.set_cons_zero, List.set_cons_succ]) | (refine sch_no rfl rfl hH ?_; simp only [Act.put, List.setIfInBounds_toArray, List.set_cons_zero, List.set_cons_succ]))
  refine sch_done ?_
  clear hH
  go_wp2
  go_ret
  exact ⟨rfl, hB1.trans (hD11.mono hB1.size)⟩
end Go.Proofs.YtomndfeifjiljaaDoor
