/- The texts FrMem, FrPut, FrGet, Jump, FrAll, FrRows, FrCutPlain, FrBurstPlain, FrFlip in one (as far as the seat has what they speak of); what each proves, and its conditions, stands before it. -/
import Derived.Test.YtnmgdaaddfdffaaGreatDoorGCrc
import Derived.Test.YtnmgdaaddfdffaaGreatDoorGGen
import Derived.Test.YtnmgdaaddfdffaaGreatDoorGBytes
import Derived.Lib.LazyBuf
import Derived.WalkMore
import Derived.ScopeJumps
/- Frames in memory; the contract of slices.Clone of bytes. Condition: a slice's own bound. -/
namespace Go.Proofs.YtnmgdaaddfdffaaGreatDoor
open Go.RowKit

/-- A frame's two cells. -/
abbrev rFra : Reader Fra := rBoth 1 (rInt .i64) rBytes
theorem rFra_stays : Stays rFra := rBoth_stays (rInt_stays _) rBytes_stays
theorem rFra_open {S : Nat → Prop} {w : World} {cs : List Value} {f : Fra} (h : rFra S w cs f) : ∃ A c, cs = [.int .i64 f.1, .slice A f.2.length c] ∧ f.2.length ≤ c ∧ c ≤ maxLen ∧ (∀ x ∈ f.2, x < 256) ∧ (Lit.int .i64 f.1).wf = true ∧ RdIn S w A (u8s f.2) := by
  obtain ⟨_, ⟨h1, hw⟩, A, c, h2, h3, h4, h5, h6⟩ := h
  refine ⟨A, c, ?_, h3, h4, h5, hw, h6⟩
  rw [← List.take_append_drop 1 cs, h1, h2]
  rfl
theorem rFra_mk {S : Nat → Prop} {w : World} {f : Fra} {A : Option Addr} {c : Nat} (hc : f.2.length ≤ c) (hm : c ≤ maxLen) (hb : ∀ x ∈ f.2, x < 256) (hw : (Lit.int .i64 f.1).wf = true) (hr : RdIn S w A (u8s f.2)) : rFra S w [.int .i64 f.1, .slice A f.2.length c] f :=
  ⟨rfl, ⟨rfl, hw⟩, A, c, rfl, hc, hm, hb, hr⟩

/-- A frame that came in, written out. -/
theorem fra_arg {w : World} {cs : Array Value} {f : Fra} (h : rFra (All w) w cs.toList f) : ∃ A c, cs = #[.int .i64 f.1, .slice A f.2.length c] ∧ f.2.length ≤ c ∧ c ≤ maxLen ∧ (∀ x ∈ f.2, x < 256) ∧ (-9223372036854775808 ≤ f.1 ∧ f.1 ≤ 9223372036854775807) ∧ Rd w A (u8s f.2) := by
  obtain ⟨A, c, h1, h2, h3, h4, h5, h6⟩ := rFra_open h
  exact ⟨A, c, by cases cs; simpa using h1, h2, h3, h4, bounds_i64 h5, h6⟩

set_option maxRecDepth 100000 in
set_option maxHeartbeats 400000 in
theorem clone_any (A : Option Addr) (c n : Nat) (bs : List Nat) (w : World) (hn : bs.length = n) (hr : Rd w A (u8s bs)) (hlen : n ≤ 140737488355328) :
    Calls Tryz.prog 200 #[.slice A n c] w fun e w' => ∃ A' c', e = .returned (.slice A' n c') ∧ n ≤ c' ∧ c' ≤ maxLen ∧ RdIn (fun b => w.heap.size ≤ b ∧ b < w'.heap.size) w' A' (u8s bs) ∧ Below w.heap.size w w' := by
  obtain ⟨i0, hi, hz0, hz1, hz2⟩ := info_parts info_u8
  cases A with
  | none =>
    have h0 : bs = [] := by
      rcases hr with h | ⟨_, _, h, _⟩
      · exact List.eq_nil_of_length_eq_zero (by simpa using congrArg List.length h)
      · cases h
    subst h0
    obtain rfl : n = 0 := by simpa using hn.symm
    have hnil : ∀ W : World, (binOp .eql 29 (.slice none 0 c) (.slice none 0 0)).run Tryz.prog W = .ok (.bool true) W := fun W => run_eql_slice_nil W _ _ _ _ _ Tryz.underlying29
    go_enter Tryz.func200, Tryz.ntmps200
    go_wp2
    go_ret
    exact ⟨none, 0, rfl, Nat.le_refl _, Nat.zero_le _, .inl rfl, Below.refl _ _⟩
  | some ad =>
    have hown : (w.alloc (.cells #[] 5)).ownsRow w.heap.size 5 1 (.slice (some ⟨w.heap.size, 0, none⟩) 0 0) 0 [] := World.ownsRow_made w #[] 0 (Nat.le_refl _) (by simp [maxLen]) rfl
    have hB0 : Below w.heap.size w (w.alloc (.cells #[] 5)) := (Below.refl _ w).alloc (Nat.le_refl _) _
    have hr0 := hr.below hB0
    have hnil : ∀ W : World, (binOp .eql 29 (.slice (some ad) n c) (.slice none 0 0)).run Tryz.prog W = .ok (.bool false) W := fun W => run_eql_slice_nil W _ _ _ _ _ Tryz.underlying29
    go_enter Tryz.func200, Tryz.ntmps200
    go_wp2_with (first
      | (at_builtin; refine wpList_app rfl (.tmp 5) (.tmp 6) 29 rfl w.heap.size 5 i0 (.int .u8 0) 1 Tryz.underlying29 hi hz0 hz1 hz2 rfl (.slice (some ⟨w.heap.size, 0, none⟩) 0 0) 0 [] rfl hown (some ad) n c (u8s bs) rfl (by rw [u8s_length, hn]) hr0 (u8s_one _) (by simp only [maxLen]; omega) (by omega) (by simp) ?_; intro v3 w3 hown3 hg3 _; simp only [Nat.zero_add, List.nil_append] at hown3)
      | fail)
    go_ret
    have hB : Below w.heap.size w w3 := hB0.grown hg3 (by simp) (fun k hk => by simp [Value.ownBlock] at hk; omega)
    rcases hown3.2 with ⟨rfl, h0⟩ | ⟨g, cap, cur, rfl, hgb, hgc, hnc, hm, _⟩
    · subst h0
      exact ⟨none, 0, rfl, Nat.le_refl _, Nat.zero_le _, .inl (List.eq_nil_of_length_eq_zero (by rw [u8s_length, hn])), hB⟩
    · refine ⟨some ⟨g, 0, none⟩, cap, rfl, hnc, hm, ?_, hB⟩
      rcases Rd.own hown3 with h | ⟨b, off, e, hb, hc⟩
      · exact .inl h
      · injection e with e
        injection e with e1 e2
        subst e1 e2
        exact .inr ⟨g, 0, rfl, ⟨hgb, hb⟩, hc⟩
end Go.Proofs.YtnmgdaaddfdffaaGreatDoor

/- The contract of frame.Put: at every frame that may be its bytes ('putL'), of the call's own; else no bytes, and ErrArg; nothing that was there is changed. No condition. -/
namespace Go.Proofs.YtnmgdaaddfdffaaGreatDoor
open Go.RowKit

set_option maxRecDepth 100000 in
set_option maxHeartbeats 1000000 in
theorem put_ok (k : Nat) (A : Option Addr) (n c : Nat) (bs : List Nat) (w : World) (hk : k < 256) (hn : bs.length = n) (hn2 : n < 256) (hb : ∀ x ∈ bs, x < 256) (hr : Rd w A (u8s bs)) :
    Calls Tryz.prog 136 #[.agg #[.int .i64 (k : Int), .slice A n c]] w fun e w' => ∃ g cap, e = .returned (.tuple #[.slice (some ⟨g, 0, none⟩) (n + 10) cap, .int .i64 0]) ∧ n + 10 ≤ cap ∧ w.heap.size ≤ g ∧ g < w'.heap.size ∧ Rd w' (some ⟨g, 0, none⟩) (u8s (putL k bs)) ∧ Below w.heap.size w w' := by
  have hk0 : decide ((k : Int) < 0) = false := by rw [decide_eq_false_iff_not]; omega
  have hk1 : decide ((255 : Int) < (k : Int)) = false := by rw [decide_eq_false_iff_not]; omega
  have hk2 : decide ((255 : Int) < (n : Int)) = false := by rw [decide_eq_false_iff_not]; omega
  have hk3 : (k : Int) % 256 = (k : Int) := by omega
  have hk4 : (n : Int) % 256 = (n : Int) := by omega
  have hB0 : Below w.heap.size w ((w.alloc (.cells #[.int .i64 (k : Int), .slice A n c] 99)).alloc (.cells #[.int .u8 (k : Int), .int .u8 (n : Int)] 5)) := ((Below.refl _ w).alloc (Nat.le_refl _) _).alloc (by simp) _
  have hr0 := hr.below hB0
  have hlit : Rd ((w.alloc (.cells #[.int .i64 (k : Int), .slice A n c] 99)).alloc (.cells #[.int .u8 (k : Int), .int .u8 (n : Int)] 5)) (some ⟨w.heap.size + 1, 0, none⟩) (u8s [k, n]) := by
    have := lit_rd (w.alloc (.cells #[.int .i64 (k : Int), .slice A n c] 99)) [k, n]
    rw [show (w.alloc (.cells #[.int .i64 (k : Int), .slice A n c] 99)).heap.size = w.heap.size + 1 by simp] at this
    exact this
  have hbx := (Blk.new w 99 [.int .i64 (k : Int), .slice A n c]).alloc (.cells #[.int .u8 (k : Int), .int .u8 (n : Int)] 5)
  have hcell := hbx.cell (j := 1) rfl
  have P1 := Lib.hid (fun (W : World) (a : Option Addr) (h : Rd W a (u8s [k, n])) => seal_form a 2 2 [k, n] W rfl (by intro x hx; simp at hx; omega) h (by omega))
  have P2 := Lib.hid (fun (W : World) (h : Rd W A (u8s bs)) => seal_form A c n bs W hn hb h (by omega))
  have hput : putL k bs = sealL [k, n] ++ sealL bs := by unfold putL; rw [hn]
  have hl1 : (sealL [k, n]).length = 6 := head_length k n
  have hl2 : (sealL bs).length = n + 4 := by rw [sealL_length, hn]
  have P3 := Lib.hid (fun (W : World) (G a b c1 c2 : Nat) (h0 : G < W.heap.size) (h1 : Rd W (some ⟨a, 0, none⟩) (u8s (sealL [k, n]))) (h2 : Rd W (some ⟨b, 0, none⟩) (u8s (sealL bs))) (h3 : W.cell? ⟨G, 0, none⟩ = some (.slice (some ⟨a, 0, none⟩) 6 c1)) (h4 : W.cell? ⟨G, 1, none⟩ = some (.slice (some ⟨b, 0, none⟩) (n + 4) c2)) =>
    concat2_any G (some ⟨a, 0, none⟩) (some ⟨b, 0, none⟩) 6 c1 (n + 4) c2 (sealL [k, n]) (sealL bs) W hl1 hl2 (by omega) (by omega) h1 h2 h0 h3 h4)
  have hl3 : (sealL [k, n] ++ sealL bs).length = n + 10 := by rw [List.length_append, hl1, hl2]; omega
  rw [hl3] at P3
  rw [hput]
  generalize sealL [k, n] = s1 at *
  generalize sealL bs = s2 at *
  have Hl3 := Lib.hid hl3
  have Hcell := Lib.hid hcell
  clear hl3 hput hl1 hl2 hbx hcell
  go_enter Tryz.func136, Tryz.ntmps136
  go_wp2_with fail
  refine sch_start [(0, true), (2, true), (3, true), (1, false), (4, false), (5, false), (6, false), (7, true), (8, true)]
    (fun W => W.cell? ⟨w.heap.size, 1, none⟩ = some (.slice A n c)) (by kernel_rfl) rfl (by kernel_rfl) (fun _ _ _ _ _ h => h) Hcell.out (fun hH => ?_)
  repeat (first | (refine sch_yes (v := ?_) rfl rfl ?_ hH ?_; rotate_left; (focus ((intro W hW; go_simp) <;> with_reducible rfl)); simp only [Act.put, List.setIfInBounds_toArray, List.set_cons_zero, List.set_cons_succ]) | (refine sch_no rfl rfl hH ?_; simp only [Act.put, List.setIfInBounds_toArray, List.set_cons_zero, List.set_cons_succ]))
  refine sch_call rfl rfl (fun K hK => ?_)
  go_wp2_with (go_at_call 182; refine (P1.out _ _ ?_).mono ?_; exact hlit; rintro e w1 ⟨g1, cap1, rfl, hcap1, hg1, hgl1, hrs1, hB1⟩)
  have hB1' : Below w.heap.size w w1 := hB0.drew.trans (hB1.mono hB0.size)
  have hc1 : w1.cell? ⟨w.heap.size, 1, none⟩ = some (.slice A n c) := (hB1.cell (p := ⟨w.heap.size, 1, none⟩) (by simp; omega)).trans Hcell.out
  have hr1 : Rd w1 A (u8s bs) := hr.below hB1'
  refine hK.out _ _ hc1 ?_
  clear hK hB1 hB0 hH Hcell hr0 hlit
  have hH := hc1
  repeat (first | (refine sch_yes (v := ?_) rfl rfl ?_ hH ?_; rotate_left; (focus ((intro W hW; go_simp) <;> with_reducible rfl)); simp only [Act.put, List.setIfInBounds_toArray, List.set_cons_zero, List.set_cons_succ]) | (refine sch_no rfl rfl hH ?_; simp only [Act.put, List.setIfInBounds_toArray, List.set_cons_zero, List.set_cons_succ]))
  refine sch_call rfl rfl (fun K hK => ?_)
  go_wp2_with (go_at_call 182; refine (P2.out _ hr1).mono ?_; rintro e w2 ⟨g2, cap2, rfl, hcap2, hg2, hgl2, hrs2, hB2⟩)
  have hB2' : Below w.heap.size w w2 := hB1'.trans (hB2.mono hB1'.size)
  have hgw : w.heap.size < w1.heap.size := by have := hg1; simp at this; omega
  have hc2 : w2.cell? ⟨w.heap.size, 1, none⟩ = some (.slice A n c) := (hB2.cell (p := ⟨w.heap.size, 1, none⟩) hgw).trans hc1
  have hrs1' := hrs1.below hB2
  have hgw2 : w.heap.size < w2.heap.size := Nat.lt_of_lt_of_le hgw hB2.size
  refine hK.out _ _ hc2 ?_
  clear hK hB2 hB1' hH hc1 hr1 hrs1 hr P1 P2 hg1 hgl1 hg2 hgl2 hgw
  have hH := hc2
  have hbl := Blk.new w2 29 [.slice (some ⟨g1, 0, none⟩) 6 cap1, .slice (some ⟨g2, 0, none⟩) (n + 4) cap2]
  have hA : Below w2.heap.size w2 (w2.alloc (.cells #[.slice (some ⟨g1, 0, none⟩) 6 cap1, .slice (some ⟨g2, 0, none⟩) (n + 4) cap2] 29)) := (Below.refl _ w2).alloc (Nat.le_refl _) _
  have hc3 := (hA.cell (p := ⟨w.heap.size, 1, none⟩) hgw2).trans hc2
  have hB3' := hB2'.trans (hA.mono hB2'.size)
  have C3 := Lib.hid (P3.out _ w2.heap.size g1 g2 cap1 cap2 (by simp) (hrs1'.below hA) (hrs2.below hA) (hbl.cell (j := 0) rfl) (hbl.cell (j := 1) rfl))
  have Hc3 := Lib.hid hc3
  clear hc3 hbl P3
  refine sch_call rfl rfl (fun K hK => ?_)
  go_wp2_with fail
  refine hK.out _ _ Hc3.out ?_
  clear hK hH
  refine sch_call rfl rfl (fun K hK => ?_)
  go_wp2_with (go_at_call 181; refine C3.out.mono ?_; rintro e w4 ⟨v, rfl, hown, hB4⟩)
  have hc4 : w4.cell? ⟨w.heap.size, 1, none⟩ = some (.slice A n c) := (hB4.cell (p := ⟨w.heap.size, 1, none⟩) (by simp; omega)).trans Hc3.out
  have hB4' := hB3'.trans (hB4.mono hB3'.size)
  obtain ⟨g, cap, rfl, hg, hlt, hcap, _⟩ := own_open hown (by omega)
  refine hK.out _ _ hc4 ?_
  clear hK
  have hH := hc4
  repeat (first | (refine sch_yes (v := ?_) rfl rfl ?_ hH ?_; rotate_left; (focus ((intro W hW; go_simp) <;> with_reducible rfl)); simp only [Act.put, List.setIfInBounds_toArray, List.set_cons_zero, List.set_cons_succ]) | (refine sch_no rfl rfl hH ?_; simp only [Act.put, List.setIfInBounds_toArray, List.set_cons_zero, List.set_cons_succ]))
  refine sch_done ?_
  go_wp2
  go_ret2
  exact ⟨g, cap, rfl, hcap, Nat.le_trans hB3'.size hg, hlt, Rd.own hown, hB4'⟩

set_option maxRecDepth 100000 in
set_option maxHeartbeats 1000000 in
theorem put_bad (k : Int) (A : Option Addr) (n c : Nat) (w : World) (h : ¬ (0 ≤ k ∧ k ≤ 255 ∧ n ≤ 255)) :
    Calls Tryz.prog 136 #[.agg #[.int .i64 k, .slice A n c]] w fun e w' => e = .returned (.tuple #[.slice none 0 0, .int .i64 1]) ∧ Below w.heap.size w w' := by
  have hor : decide (k < 0) = true ∨ (decide (k < 0) = false ∧ decide (255 < k) = true) ∨ (decide (k < 0) = false ∧ decide (255 < k) = false ∧ decide ((255 : Int) < (n : Int)) = true) := by
    simp only [decide_eq_true_eq, decide_eq_false_iff_not]; omega
  rcases hor with h0 | ⟨h0, h1⟩ | ⟨h0, h1, h2⟩
  all_goals
    go_enter Tryz.func136, Tryz.ntmps136
    go_wp2
    go_ret2
    exact ⟨rfl, (Below.refl _ w).alloc (Nat.le_refl _) _⟩
end Go.Proofs.YtnmgdaaddfdffaaGreatDoor

/- The contract of frame.Get: at every slice of bytes what 'getE', 'getF' and 'getN' tell; the frame's bytes are of the call's own; nothing that was there is changed. Condition: a slice's own bound (2^47 bytes). -/
namespace Go.Proofs.YtnmgdaaddfdffaaGreatDoor
open Go.RowKit

theorem info_fr : (Tryz.prog.info? 99).map (fun i => (i.zero, i.size)) = some (some (.agg #[.int .i64 0, .slice none 0 0]), 2) := by kernel_rfl
set_option maxRecDepth 100000 in
set_option maxHeartbeats 1000000 in
theorem get_any (A : Option Addr) (c n : Nat) (bs : List Nat) (w : World) (hn : bs.length = n) (hc : n ≤ c) (hb : ∀ x ∈ bs, x < 256) (hr : Rd w A (u8s bs)) (hlen : n ≤ 140737488355328) :
    Calls Tryz.prog 166 #[.slice A n c] w fun e w' => ∃ A' c', e = .returned (.tuple #[.agg #[.int .i64 (getF bs).1, .slice A' (getF bs).2.length c'], .int .i64 (getN bs : Int), .int .i64 (getE bs : Int)]) ∧ (getF bs).2.length ≤ c' ∧ c' ≤ maxLen ∧ RdIn (fun b => w.heap.size ≤ b ∧ b < w'.heap.size) w' A' (u8s (getF bs).2) ∧ Below w.heap.size w w' := by
  obtain ⟨hz, hsz⟩ := zero_of_info info_fr
  have HE := Lib.hid (rfl : getE bs = getE bs)
  have HF := Lib.hid (rfl : getF bs = getF bs)
  have HN := Lib.hid (rfl : getN bs = getN bs)
  generalize hE : getE bs = E at *
  generalize hF : getF bs = F at *
  generalize hN : getN bs = N at *
  have hbad : E ≠ 0 → F = (0, []) ∧ N = 0 := fun h => by subst hE hF hN; exact get_bad h
  clear HE HF HN
  have Hbad := Lib.hid hbad
  clear hbad
  by_cases h6 : n < 6
  · obtain rfl : E = 2 := by rw [← hE]; exact getE_short (by omega)
    have h1 : decide ((n : Int) < 6) = true := by rw [decide_eq_true_eq]; omega
    clear hE hF hN
    go_enter Tryz.func166, Tryz.ntmps166
    go_wp2
    refine ret_cell2 rfl (Blk.new w 99 [.int .i64 0, .slice none 0 0]) Tryz.underlying99 rfl hsz rfl rfl ?_
    obtain ⟨rfl, rfl⟩ := Hbad.out (by omega)
    exact ⟨none, 0, rfl, Nat.le_refl _, Nat.zero_le _, .inl rfl, (Below.refl _ w).alloc (Nat.le_refl _) _⟩
  · obtain ⟨b, off, rfl, hblt, hcs⟩ := hr.at (k := 0) (by simp; omega)
    have HE := Lib.hid hE
    have HF := Lib.hid hF
    have HN := Lib.hid hN
    clear hE hF hN
    have h1 : decide ((n : Int) < 6) = false := by rw [decide_eq_false_iff_not]; omega
    have h2 : 6 ≤ c := by omega
    have h2' : (6 : Int) ≤ (c : Int) := by omega
    have hB0 : Below w.heap.size w (w.alloc (.cells #[.int .i64 0, .slice none 0 0] 99)) := (Below.refl _ w).alloc (Nat.le_refl _) _
    have hblk := Blk.new w 99 [.int .i64 0, .slice none 0 0]
    have G1 := good_any (some ⟨b, off, none⟩) 6 6 (bs.take 6) _ (by rw [List.length_take]; omega) (by omega) (fun x hx => hb x (List.mem_of_mem_take hx)) (by rw [← u8s_take]; exact (hr.below hB0).take 6) (by omega)
    have HG1 := Lib.hid G1
    clear G1
    go_enter Tryz.func166, Tryz.ntmps166
    go_wp2_with fail
    refine HG1.out.mono ?_
    rintro e w1 ⟨rfl, hB1⟩
    clear HG1
    have hblk1 := hblk.below hblk.lt hB1
    have hB1' : Below w.heap.size w w1 := hB0.trans (hB1.mono hB0.size)
    clear hB1 hB0 hblk
    have hrw1 := (hblk1.set 0 (.int .i64 0)).set 1 (.slice none 0 0)
    have hBr1 := (hB1'.setCell (p := ⟨w.heap.size, 0, none⟩) (Nat.le_refl w.heap.size) (.int .i64 0)).setCell (p := ⟨w.heap.size, 1, none⟩) (Nat.le_refl w.heap.size) (.slice none 0 0)
    have hc0 := hblk1.cell (j := 0) rfl
    have hc1 := hblk1.cell (j := 1) rfl
    have hf0 := hblk1.frozen 0
    have hf1 := hblk1.frozen 1
    cases hgd : goodL (bs.take 6) with
    | false =>
      obtain rfl : E = 3 := by rw [← HE.out]; exact getE_head (by omega) hgd
      go_wp2
      refine ret_cell2 rfl hrw1 Tryz.underlying99 rfl hsz rfl rfl ?_
      obtain ⟨rfl, rfl⟩ := Hbad.out (by omega)
      exact ⟨none, 0, rfl, Nat.le_refl _, Nat.zero_le _, .inl rfl, hBr1⟩
    | true =>
      have hr1 := hr.below hB1'
      obtain ⟨_, _, e1, _, hcell1⟩ := u8s_at hr1 (k := 1) (by omega)
      injection e1 with e1
      injection e1 with e1 e2
      subst e1 e2
      have hd1 : bs.getD 1 0 = bs[1]'(by omega) := by simp [show 1 < bs.length by omega]
      rw [← hd1] at hcell1
      have hs256 : bs.getD 1 0 < 256 := by rw [hd1]; exact hb _ (List.getElem_mem _)
      have hEc := fun h : bs.length < bs.getD 1 0 + 10 => getE_cut (bs := bs) (by omega) hgd h
      have hEs := fun (h : bs.getD 1 0 + 10 ≤ bs.length) hg => getE_sum (bs := bs) (by omega) hgd h hg
      have hEf := fun (h : bs.getD 1 0 + 10 ≤ bs.length) hg => getE_fine (bs := bs) (by omega) hgd h hg
      have hfine := fun h => get_fine (bs := bs) h
      rw [HE.out] at hEc hEs hEf hfine
      rw [HF.out, HN.out] at hfine
      have G2 := fun (h : bs.getD 1 0 + 10 ≤ bs.length) => good_any (some ⟨b, off + 6, none⟩) (bs.getD 1 0 + 4) (bs.getD 1 0 + 4) ((bs.drop 6).take (bs.getD 1 0 + 4)) w1 (by rw [List.length_take, List.length_drop]; omega) (by omega) (fun x hx => hb x (List.mem_of_mem_drop (List.mem_of_mem_take hx))) (by rw [← u8s_take, ← u8s_drop]; exact (hr1.drop 6).take _) (by omega)
      have HEc := Lib.hid hEc
      have HEs := Lib.hid hEs
      have HEf := Lib.hid hEf
      have Hfine := Lib.hid hfine
      have HG2 := Lib.hid G2
      clear hEc hEs hEf hfine G2 hd1 hgd
      generalize hsd : bs.getD 1 0 = s at *
      by_cases hcut : bs.length < s + 10
      · obtain rfl : E = 2 := HEc.out hcut
        have hd2 : decide ((n : Int) < 6 + (s : Int) + 4) = true := by rw [decide_eq_true_eq]; omega
        go_wp2
        refine ret_cell2 rfl hrw1 Tryz.underlying99 rfl hsz rfl rfl ?_
        obtain ⟨rfl, rfl⟩ := Hbad.out (by omega)
        exact ⟨none, 0, rfl, Nat.le_refl _, Nat.zero_le _, .inl rfl, hBr1⟩
      · have hd2 : decide ((n : Int) < 6 + (s : Int) + 4) = false := by rw [decide_eq_false_iff_not]; omega
        have h3 : s + 10 ≤ c := by omega
        go_wp2_with fail
        simp only [show 6 + s + 4 - 6 = s + 4 by omega, show 6 + s - 2 = s + 4 by omega]
        refine (HG2.out (by omega)).mono ?_
        rintro e w2 ⟨rfl, hB2⟩
        have hblk2 := hblk1.below hblk1.lt hB2
        have hg2 : w.heap.size < w2.heap.size := hblk2.lt
        have hB2' : Below w.heap.size w w2 := hB1'.trans (hB2.mono hB1'.size)
        clear hc0 hc1 hf0 hf1 hrw1 hBr1 hB2 hblk1 hB1' hcell1 hr1 HG2 HEc
        cases hgb : goodL ((bs.drop 6).take (s + 4)) with
        | false =>
          obtain rfl : E = 3 := HEs.out (by omega) hgb
          have hrw2 := (hblk2.set 0 (.int .i64 0)).set 1 (.slice none 0 0)
          have hBr2 := (hB2'.setCell (p := ⟨w.heap.size, 0, none⟩) (Nat.le_refl w.heap.size) (.int .i64 0)).setCell (p := ⟨w.heap.size, 1, none⟩) (Nat.le_refl w.heap.size) (.slice none 0 0)
          have hc0 := hblk2.cell (j := 0) rfl
          have hc1 := hblk2.cell (j := 1) rfl
          have hf0 := hblk2.frozen 0
          have hf1 := hblk2.frozen 1
          go_wp2
          refine ret_cell2 rfl hrw2 Tryz.underlying99 rfl hsz rfl rfl ?_
          obtain ⟨rfl, rfl⟩ := Hbad.out (by omega)
          exact ⟨none, 0, rfl, Nat.le_refl _, Nat.zero_le _, .inl rfl, hBr2⟩
        | true =>
          obtain rfl : E = 0 := HEf.out (by omega) hgb
          obtain ⟨hF, rfl⟩ := Hfine.out rfl
          have hr2 := hr.below hB2'
          have hlb : ((bs.drop 6).take s).length = s := by rw [List.length_take, List.length_drop]; omega
          have C1 := Lib.hid (clone_any (some ⟨b, off + 6, none⟩) s s ((bs.drop 6).take s) w2.drew hlb (by rw [← u8s_take, ← u8s_drop]; exact (hr2.drop 6).take _) (by omega))
          obtain ⟨_, _, e1, hb2, hcell0⟩ := u8s_at hr2 (k := 0) (by omega)
          injection e1 with e1
          injection e1 with e1 e2
          subst e1 e2
          have hd0 : bs.getD 0 0 = bs[0]'(by omega) := by simp [show 0 < bs.length by omega]
          rw [← hd0, Nat.add_zero] at hcell0
          have hk0 : bs.getD 0 0 < 256 := by rw [hd0]; exact hb _ (List.getElem_mem _)
          have HF2 := Lib.hid hF
          have Hlb := Lib.hid hlb
          clear hF hd0 hgb HEs HEf Hfine hlb Hbad
          generalize bs.getD 0 0 = k0 at *
          generalize (bs.drop 6).take s = body at *
          have hs4 : s ≤ s + 4 := by omega
          have hs5 : (s : Int) ≤ (s : Int) + 4 := by omega
          have hne : b ≠ w.heap.size := by omega
          have hw10 : IntKind.i64.wrap (6 + (s : Int) + 4) = 6 + (s : Int) + 4 := IntWalk.i64_in _ (by omega)
          have hwk : IntKind.i64.wrap (k0 : Int) = (k0 : Int) := IntWalk.i64_in _ (by omega)
          go_wp2_with fail
          refine sch_start [(0, true), (1, true), (2, true), (3, true), (4, true), (7, true), (5, false), (6, true), (8, false), (9, true), (10, true)]
            (fun W => W.cell? ⟨b, off, none⟩ = some (.int .u8 (k0 : Int))) (by kernel_rfl) rfl (by kernel_rfl) (fun _ _ _ _ _ h => h) hcell0 (fun hH => ?_)
          repeat (first | (refine sch_yes (v := ?_) rfl rfl ?_ hH ?_; rotate_left; (focus ((intro W hW; go_simp) <;> with_reducible rfl)); simp only [Act.put, List.setIfInBounds_toArray, List.set_cons_zero, List.set_cons_succ]) | (refine sch_no rfl rfl hH ?_; simp only [Act.put, List.setIfInBounds_toArray, List.set_cons_zero, List.set_cons_succ]))
          refine sch_call rfl rfl (fun K hK => ?_)
          go_wp2_with (go_at_call 200; refine C1.out.mono ?_; rintro e w3 ⟨A', c', rfl, hc', hm', hrd, hB3⟩)
          have hblk3 := Blk.below (w := w2.drew) hblk2 hg2 hB3
          have hcell3 : w3.cell? ⟨b, off, none⟩ = some (.int .u8 (k0 : Int)) := (hB3.cell (p := ⟨b, off, none⟩) hb2).trans hcell0
          have hB3' : Below w.heap.size w w3 := hB2'.drew.trans (hB3.mono hB2'.size)
          refine hK.out _ _ hcell3 ?_
          clear hK hH hblk2 hB3 hcell0 C1
          have hH := hcell3
          have hrw3 := (hblk3.set 0 (.int .i64 (k0 : Int))).set 1 (.slice A' s c')
          have hBr3 := (hB3'.setCell (p := ⟨w.heap.size, 0, none⟩) (Nat.le_refl w.heap.size) (.int .i64 (k0 : Int))).setCell (p := ⟨w.heap.size, 1, none⟩) (Nat.le_refl w.heap.size) (.slice A' s c')
          have hkp : Keeps (fun x => w2.heap.size ≤ x ∧ x < w3.heap.size) (fun x => w.heap.size ≤ x ∧ x < ((w3.setCell ⟨w.heap.size, 0, none⟩ (.int .i64 (k0 : Int))).setCell ⟨w.heap.size, 1, none⟩ (.slice A' s c')).heap.size) w3 ((w3.setCell ⟨w.heap.size, 0, none⟩ (.int .i64 (k0 : Int))).setCell ⟨w.heap.size, 1, none⟩ (.slice A' s c')) := fun x ⟨h1, h2⟩ =>
            ⟨⟨by omega, by simpa using h2⟩, (heap_setCell_other _ _ x _ (by simp; omega)).trans (heap_setCell_other _ _ x _ (by simp; omega))⟩
          have hrd4 := hrd.keeps hkp
          have hcell4 : ((w3.setCell ⟨w.heap.size, 0, none⟩ (.int .i64 (k0 : Int))).setCell ⟨w.heap.size, 1, none⟩ (.slice A' s c')).cell? ⟨b, off, none⟩ = some (.int .u8 (k0 : Int)) :=
            (World.cell?_of_block (w := w3) (a := ⟨b, off, none⟩) ((heap_setCell_other _ _ b _ (by simp; omega)).trans (heap_setCell_other _ _ b _ (by simp; omega)))).trans hcell3
          have hc0 := hblk3.cell (j := 0) rfl
          have hc1 := hblk3.cell (j := 1) rfl
          have hf0 := hblk3.frozen 0
          have hf1 := hblk3.frozen 1
          have Hrd4 := Lib.hid hrd4
          have Hcell4 := Lib.hid hcell4
          clear hrd4 hkp hrd hcell4
          repeat (first | (refine sch_yes (v := ?_) rfl rfl ?_ hH ?_; rotate_left; (focus ((intro W hW; go_simp) <;> with_reducible rfl)); simp only [Act.put, List.setIfInBounds_toArray, List.set_cons_zero, List.set_cons_succ]) | (refine sch_no rfl rfl hH ?_; simp only [Act.put, List.setIfInBounds_toArray, List.set_cons_zero, List.set_cons_succ]))
          refine sch_call rfl rfl (fun K hK => ?_)
          go_wp2_with fail
          refine hK.out _ _ Hcell4.out ?_
          clear hK hH
          have hH := Hcell4.out
          repeat (first | (refine sch_yes (v := ?_) rfl rfl ?_ hH ?_; rotate_left; (focus ((intro W hW; go_simp) <;> with_reducible rfl)); simp only [Act.put, List.setIfInBounds_toArray, List.set_cons_zero, List.set_cons_succ]) | (refine sch_no rfl rfl hH ?_; simp only [Act.put, List.setIfInBounds_toArray, List.set_cons_zero, List.set_cons_succ]))
          refine sch_done ?_
          go_wp2
          refine ret_cell2 rfl hrw3 Tryz.underlying99 rfl hsz rfl rfl ?_
          have hF := HF2.out
          subst hF
          exact ⟨A', c', by simp only [Hlb.out]; congr 4; go_num, by rw [Hlb.out]; exact hc', hm', Hrd4.out, hBr3⟩
end Go.Proofs.YtnmgdaaddfdffaaGreatDoor

/- A scope whose label stands behind one piece, and to which the run jumps back: what holds at the label, each time, and a measure. Over any program. No condition. -/
namespace Go.Proofs.YtnmgdaaddfdffaaGreatDoor
theorem wp_scope_after {P : Program} {c X : Code} {a : Act} {w : World} {Q : Exit → Act → World → Prop} (l : Nat) (J : Act → World → Prop) (μ : Act → World → Nat) (hf : findLabel (c.seq ((Code.label l).seq X)) l = some (Code.skip.seq X))
    (first : c.wp P (Exit.then J (fun _ _ _ => False)) a w)
    (pass : ∀ a w, J a w → X.wp P (Exit.jump l (fun a' w' => J a' w' ∧ μ a' w' < μ a w) Q) a w) : (Code.scope (c.seq ((Code.label l).seq X))).wp P Q a w := by
  refine wp_scope_jumps l J μ hf ?_ fun a w hJ => wp_seq (wp_skip (pass a w hJ))
  have hX : ∀ a w, J a w → X.wp P (Exit.jump l J Q) a w := fun a w hJ => wp_mono (pass a w hJ) fun e a' w' h => by
    cases e with
    | goto l' => exact ⟨h.1, h.2.1⟩
    | _ => exact h
  refine wp_seq (wp_mono first fun e a' w' h => ?_)
  cases e with
  | normal => exact wp_seq (wp_label (hX a' w' h))
  | _ => exact h.elim
end Go.Proofs.YtnmgdaaddfdffaaGreatDoor

/- The contract of frame.All: at every slice of bytes what 'allL' tells: the frames, of the call's own, and the first error; nothing that was there is changed. Condition: at most 1,000,000,000 bytes. -/
namespace Go.Proofs.YtnmgdaaddfdffaaGreatDoor
open Go.RowKit

def lenOf : Value → Nat | .slice _ m _ => m | _ => 0
theorem info_fr4 : (Tryz.prog.info? 99).map (fun i => (i.zero, i.size, i.bytes)) = some (some (.agg #[.int .i64 0, .slice none 0 0]), 2, 32) := by kernel_rfl
/-- What a run of All has at the label: the rest of the bytes, the frames ahead of it. -/
structure AllAt (w : World) (bs : List Nat) (B : Option Addr) (m d : Nat) (v : Value) (w' : World) (bs' : List Nat) (pre : List Fra) (xs : List Value) : Prop where
  len : bs'.length = m
  cap : m ≤ d
  room : pre.length + m ≤ bs.length
  byte : ∀ x ∈ bs', x < 256
  rest : Rd w B (u8s bs')
  own : w'.ownsRow w.heap.size 99 2 v pre.length xs
  ahead : Chunks 2 (rFra (fun b => b < w'.heap.size ∧ some b ≠ v.ownBlock) w') xs pre
  all : joinL pre (allL bs') = allL bs
  bel : Below w.heap.size w w'
def AllJ (w : World) (bs : List Nat) (a' : Act) (w' : World) : Prop :=
  ∃ (B : Option Addr) (m d : Nat) (v : Value) (bs' : List Nat) (pre : List Fra) (xs : List Value) (u5 u6 u7 u8 u9 u10 u11 u12 u13 u14 u15 u16 u17 u18 u19 u20 u21 u22 u23 u24 u25 u26 u27 u28 u29 u30 u31 : Value), a' = { tmps := #[.slice B m d, undef, .slice none 0 0, .int .i64 0, v, u5, u6, u7, u8, u9, u10, u11, u12, u13, u14, u15, u16, u17, u18, u19, u20, u21, u22, u23, u24, u25, u26, u27, u28, u29, u30, u31], defers := [] } ∧ AllAt w bs B m d v w' bs' pre xs
theorem own_slice2 {w : World} {base e size n : Nat} {v : Value} {xs : List Value} (h : w.ownsRow base e size v n xs) : ∃ A c, v = .slice A n c := by
  rcases h.2 with ⟨rfl, rfl⟩ | ⟨g, cap, cur, rfl, _⟩
  · exact ⟨none, 0, rfl⟩
  · exact ⟨_, cap, rfl⟩

set_option maxRecDepth 100000 in
set_option maxHeartbeats 1000000 in
theorem all_any (A : Option Addr) (c n : Nat) (bs : List Nat) (w : World) (hn : bs.length = n) (hc : n ≤ c) (hb : ∀ x ∈ bs, x < 256) (hr : Rd w A (u8s bs)) (hlen : n ≤ 1000000000) :
    Calls Tryz.prog 118 #[.slice A n c] w fun e w' => ∃ v, e = .returned (.tuple #[v, .int .i64 ((allL bs).1 : Int)]) ∧ rSlice 2 rFra (All w') w' [v] (allL bs).2 ∧ Below w.heap.size w w' := by
  have h0 : AllAt w bs A n c (.slice none 0 0) w bs [] [] := ⟨hn, hc, by simp; omega, hb, hr, World.ownsRow_nil _ _ _ _, Chunks.nil, joinL_nil bs, Below.refl _ _⟩
  obtain ⟨hz, hsz⟩ := zero_of_info info_fr
  obtain ⟨i0, hi, hz0, hz1, hz2⟩ := info_parts info_fr4
  go_enter Tryz.func118, Tryz.ntmps118
  go_wp2
  refine wp_scope_after 0 (AllJ w bs) (fun a' _ => lenOf (a'.tmps.getD 0 undef)) ?_ ?_ ?_
  · rfl
  · go_wp2
    exact ⟨_, _, _, _, bs, [], [], _, _, _, _, _, _, _, _, _, _, _, _, _, _, _, _, _, _, _, _, _, _, _, _, _, _, _, rfl, h0⟩
  · rintro a' w' ⟨B, m, d, v, bs', pre, xs, u5, u6, u7, u8, u9, u10, u11, u12, u13, u14, u15, u16, u17, u18, u19, u20, u21, u22, u23, u24, u25, u26, u27, u28, u29, u30, u31, rfl, H⟩
    clear hr hc hb h0
    obtain ⟨hm, hd, hroom, hby, hrd, hown, hch, hall, hB⟩ := H
    by_cases hmz : m = 0
    · subst hmz
      obtain rfl : bs' = [] := List.eq_nil_of_length_eq_zero hm
      rw [joinL_end] at hall
      have Hall := Lib.hid hall
      clear hall
      go_wp2
      simp only [Exit.jump]
      go_ret2
      rw [← Hall.out]
      exact ⟨v, rfl, own_rSlice rFra_stays hown rfl hch, hB⟩
    · have hbn : bs' ≠ [] := fun h => hmz (by rw [← hm, h]; rfl)
      have hm0 : ((m : Int) == 0) = false := by rw [beq_eq_false_iff_ne]; omega
      have G := get_any B d m bs' w' hm hd hby (hrd.below hB) (by omega)
      have hjb := fun h => joinL_bad (pre := pre) hbn h
      have hjs := fun h => joinL_step (pre := pre) hbn h
      have hfb := getF_byte hby
      have hfl := getF_len (bs := bs')
      have hgp := fun h => getN_pos (bs := bs') h
      have hkf : getE bs' = 0 → (Lit.int .i64 (getF bs').1).wf = true := fun h => by
        obtain ⟨hf, _⟩ := get_fine h
        rw [hf]
        have : bs'.getD 0 0 < 256 := by
          have hp : 0 < bs'.length := by omega
          simp only [List.getD_eq_getElem?_getD, List.getElem?_eq_getElem hp, Option.getD_some]
          exact hby _ (List.getElem_mem _)
        generalize bs'.getD 0 0 = q at this
        simp [Lit.wf, IntKind.min, IntKind.max, IntKind.signed, IntKind.bits]
        omega
      generalize hE : getE bs' = E at *
      generalize hF : getF bs' = F at *
      generalize hN : getN bs' = N at *
      have Hall := Lib.hid hall
      have HG := Lib.hid G
      have Hjb := Lib.hid hjb
      have Hjs := Lib.hid hjs
      have Hgp := Lib.hid hgp
      have Hkf := Lib.hid hkf
      have Hch := Lib.hid hch
      clear hall G hjb hjs hgp hE hF hN hkf hch
      go_wp2_with fail
      refine HG.out.mono ?_
      rintro e w1 ⟨A', c', rfl, hc', hm', hrd1, hB1⟩
      clear HG
      by_cases hE : E = 0
      · subst hE
        obtain ⟨hN1, hN2⟩ := Hgp.out rfl
        rw [hm] at hN2
        obtain ⟨b, off, rfl, hblt, _⟩ := hrd.at (k := 0) (by simp; omega)
        have hA : Below w1.heap.size w1 ((w1.alloc (.cells #[.int .i64 F.1, .slice A' F.2.length c'] 99)).alloc (.cells #[.int .i64 F.1, .slice A' F.2.length c'] 99)) := ((Below.refl _ w1).alloc (Nat.le_refl _) _).alloc (by simp) _
        have hB3 : Below w'.heap.size w' _ := hB1.trans (hA.mono hB1.size)
        have hbx : Rd ((w1.alloc (.cells #[.int .i64 F.1, .slice A' F.2.length c'] 99)).alloc (.cells #[.int .i64 F.1, .slice A' F.2.length c'] 99)) (some ⟨w1.heap.size + 1, 0, none⟩) [.int .i64 F.1, .slice A' F.2.length c'] := by
          have := (Blk.new (w1.alloc (.cells #[.int .i64 F.1, .slice A' F.2.length c'] 99)) 99 [.int .i64 F.1, .slice A' F.2.length c']).rd
          rw [show (w1.alloc (.cells #[.int .i64 F.1, .slice A' F.2.length c'] 99)).heap.size = w1.heap.size + 1 by simp] at this
          exact this
        have hown3 := own_below hown hB3
        have hvl := hown.lt
        have hkn : Keeps (fun x => w'.heap.size ≤ x ∧ x < w1.heap.size) (fun x => x < ((w1.alloc (.cells #[.int .i64 F.1, .slice A' F.2.length c'] 99)).alloc (.cells #[.int .i64 F.1, .slice A' F.2.length c'] 99)).heap.size ∧ some x ≠ v.ownBlock) w1 _ := fun x ⟨h1, h2⟩ =>
          ⟨⟨Nat.lt_of_lt_of_le h2 hA.size, fun e => by have := (hvl x e.symm).2; omega⟩, hA.block x h2⟩
        have hko : Keeps (fun x => x < w'.heap.size ∧ some x ≠ v.ownBlock) (fun x => x < ((w1.alloc (.cells #[.int .i64 F.1, .slice A' F.2.length c'] 99)).alloc (.cells #[.int .i64 F.1, .slice A' F.2.length c'] 99)).heap.size ∧ some x ≠ v.ownBlock) w' _ := fun x ⟨h1, h2⟩ =>
          ⟨⟨Nat.lt_of_lt_of_le h1 hB3.size, h2⟩, hB3.block x h1⟩
        have hch3 := (Hch.out.imp (fun cs a h => rFra_stays.to hko h)).append (Chunks.one (size := 2) rfl (rFra_mk (f := F) hc' hm' hfb (Hkf.out rfl) (hrd1.keeps hkn)))
        have hB3' : Below w.heap.size w _ := hB.trans (hB3.mono hB.size)
        have Hch3 := Lib.hid hch3
        have Hjs3 := Lib.hid (Hall.out.symm.trans (Hjs.out rfl)).symm
        clear hch3 hkn hko Hch Hjs Hjb Hgp Hkf hrd1 hB1 hA hown hB3 hB Hall
        have hN3 : (N : Int) ≤ (m : Int) := by omega
        have hN4 : (m : Int) ≤ (d : Int) := by omega
        go_wp2_with (first
          | (at_builtin; refine wpList_apps rfl (.tmp 21) (.tmp 23) 93 rfl w.heap.size 99 i0 (.agg #[.int .i64 0, .slice none 0 0]) 2 32 Tryz.underlying93 hi hz0 hz1 hz2 rfl (by omega) v pre.length xs rfl hown3 (some ⟨w1.heap.size + 1, 0, none⟩) 1 1 [.int .i64 F.1, .slice A' F.2.length c'] rfl rfl hbx (by simp [Value.oneCell']) (by simp only [maxLen]; omega) (by omega) hB3'.size ?_; intro v4 w4 hown4 hg4 hv4)
          | fail)
        all_goals
          go_step3
          have hfin : ∀ B4, Rd w B4 (u8s (bs'.drop N)) → AllAt w bs B4 (bs'.length - N) (bs'.length - N) v4 w4 (bs'.drop N) (pre ++ [F]) (xs ++ [.int .i64 F.1, .slice A' F.2.length c']) := fun B4 hB4 =>
            ⟨by rw [List.length_drop], Nat.le_refl _, by rw [List.length_append]; simp only [List.length_cons, List.length_nil]; omega, fun x hx => hby x (List.mem_of_mem_drop hx), hB4, by rw [List.length_append]; exact hown4,
              Hch3.out.imp (fun cs a h => rFra_stays.to (Keeps.grown hg4 hv4) h), Hjs3.out, hB3'.grown hg4 hB3'.size (fun k hk => (hown3.lt k hk).1)⟩
        · have h4 := hfin (some ⟨b, off, none⟩) (by rw [List.drop_of_length_le (by omega)]; exact .inl rfl)
          rw [show bs'.length - N = 0 by omega] at h4
          exact ⟨rfl, ⟨_, _, _, _, _, _, _, _, _, _, _, _, _, _, _, _, _, _, _, _, _, _, _, _, _, _, _, _, _, _, _, _, _, _, rfl, h4⟩, by simp only [lenOf]; simp; omega⟩
        · have h4 := hfin (some ⟨b, off + N, none⟩) (by rw [← u8s_drop]; exact hrd.drop N)
          rw [hm] at h4
          exact ⟨rfl, ⟨_, _, _, _, _, _, _, _, _, _, _, _, _, _, _, _, _, _, _, _, _, _, _, _, _, _, _, _, _, _, _, _, _, _, rfl, h4⟩, by simp only [lenOf]; simp; omega⟩
      · have hE' : ((E : Int) != 0) = true := by rw [bne_iff_ne]; omega
        go_wp2
        simp only [Exit.jump]
        go_ret2
        rw [← Hall.out, Hjb.out hE]
        exact ⟨.slice none 0 0, rfl, ⟨none, 0, [], rfl, Nat.le_refl _, Nat.zero_le _, .inl rfl, Chunks.nil⟩, (hB.trans (hB1.mono hB.size)).alloc (Nat.le_trans hB.size hB1.size) _⟩
end Go.Proofs.YtnmgdaaddfdffaaGreatDoor

/- A slice of frames in memory: the frame at a place, how many there are. No condition. -/
namespace Go.Proofs.YtnmgdaaddfdffaaGreatDoor
open Go.RowKit

/-- The frame at i of a slice of frames: its two cells. -/
theorem fra_at {S : Nat → Prop} {w : World} {A0 : Option Addr} {n c : Nat} {l : List Fra} {i : Nat} {f : Fra} (h : rSlice 2 rFra S w [.slice A0 n c] l) (hi : l[i]? = some f) : ∃ b off A c', A0 = some ⟨b, off, none⟩ ∧ S b ∧ w.cell? ⟨b, off + i * 2, none⟩ = some (.int .i64 f.1) ∧ w.cell? ⟨b, off + i * 2 + 1, none⟩ = some (.slice A f.2.length c') ∧ (∀ x ∈ f.2, x < 256) ∧ (Lit.int .i64 f.1).wf = true ∧ RdIn S w A (u8s f.2) := by
  obtain ⟨A1, c1, xs, hv, hlc, hcm, hr, hl, hch⟩ := h
  obtain ⟨A, c', hcs, _, _, hby, hwf, hrd⟩ := rFra_open (hch i f hi)
  have hlt := (List.getElem?_eq_some_iff.1 hi).1
  have hA : A0 = A1 := by simp at hv; exact hv.1
  subst hA
  rcases hr with h | ⟨b, off, rfl, hb, hc⟩
  · rw [h] at hl; simp at hl; omega
  · have h0 : xs[i * 2]? = some (.int .i64 f.1) := by
      have := congrArg (fun l : List Value => l[0]?) hcs
      simpa [List.getElem?_take, List.getElem?_drop] using this
    have h1 : xs[i * 2 + 1]? = some (.slice A f.2.length c') := by
      have := congrArg (fun l : List Value => l[1]?) hcs
      simpa [List.getElem?_take, List.getElem?_drop] using this
    exact ⟨b, off, A, c', rfl, hb, hc _ _ h0, by rw [Nat.add_assoc]; exact hc _ _ h1, hby, hwf, hrd⟩
theorem rows_len {S : Nat → Prop} {w : World} {A0 : Option Addr} {n c : Nat} {l : List Fra} (h : rSlice 2 rFra S w [.slice A0 n c] l) : l.length = n ∧ n ≤ c ∧ c ≤ maxLen := by
  obtain ⟨A1, c1, xs, hv, hlc, hcm, _⟩ := h
  simp at hv
  omega
end Go.Proofs.YtnmgdaaddfdffaaGreatDoor

/- The frames of a beginning of two frames' bytes. And frame.Put at any frame: what comes back. No condition. -/
namespace Go.Proofs.YtnmgdaaddfdffaaGreatDoor
open Go.RowKit

theorem getE_prefix {k j : Nat} {b : List Nat} (hj : j < b.length + 10) : getE ((putL k b).take j) = 2 := by
  have hl : ((putL k b).take j).length = j := by rw [List.length_take, putL_length]; omega
  by_cases h6 : j < 6
  · exact getE_short (by omega)
  · have h0 := putL_take6 k b []
    rw [List.append_nil] at h0
    have h1 : ((putL k b).take j).take 6 = sealL [k, b.length] := by rw [List.take_take, Nat.min_eq_left (by omega)]; exact h0
    have h2 : ((putL k b).take j).getD 1 0 = b.length := by
      have : (putL k b).getD 1 0 = b.length := rfl
      rw [List.getD_eq_getElem?_getD, List.getElem?_take, if_pos (by omega), ← List.getD_eq_getElem?_getD, this]
    exact getE_cut (by omega) (by rw [h1]; exact good_seal _) (by rw [h2]; omega)
theorem allL_prefix {k j : Nat} {b : List Nat} (h0 : 0 < j) (hj : j < b.length + 10) : allL ((putL k b).take j) = (2, []) := by
  have hl : ((putL k b).take j).length = j := by rw [List.length_take, putL_length]; omega
  have h := getE_prefix (k := k) hj
  have := allL_bad (bs := (putL k b).take j) (fun e => by rw [e] at hl; simp at hl; omega) (by omega)
  rw [this, h]
theorem allL_cut (k l : Nat) (b c : List Nat) (j : Nat) (hj : j ≤ b.length + 10 + (c.length + 10)) : allL ((putL k b ++ putL l c).take j) =
    if j = 0 then (0, []) else if j = b.length + 10 then (0, [((k : Int), b)]) else if j = b.length + 10 + (c.length + 10) then (0, [((k : Int), b), ((l : Int), c)]) else (2, []) := by
  have hp := putL_length k b
  have hq := putL_length l c
  by_cases h0 : j = 0
  · subst h0; rfl
  · rw [if_neg h0]
    by_cases h1 : j < b.length + 10
    · rw [if_neg (by omega), if_neg (by omega), List.take_append_of_le_length (by omega), allL_prefix (by omega) h1]
    · obtain ⟨m, rfl⟩ : ∃ m, j = b.length + 10 + m := ⟨j - (b.length + 10), by omega⟩
      rw [← hp, List.take_length_add_append, allL_put, hp]
      by_cases h2 : m = 0
      · subst h2
        simp [allL_nil]
      · by_cases h3 : m = c.length + 10
        · have e : allL ((putL l c).take m) = (0, [((l : Int), c)]) := by rw [List.take_of_length_le (by omega), allL_put1]
          rw [e]
          simp [h3]
        · have e : allL ((putL l c).take m) = (2, []) := allL_prefix (by omega) (by omega)
          rw [e]
          simp [h2, h3]

/-- What Put says at any frame. -/
def PutSays (k : Int) (bs : List Nat) (w' : World) (B : Option Addr) (m cap E : Nat) : Prop :=
  (0 ≤ k ∧ k ≤ 255 ∧ bs.length ≤ 255 ∧ E = 0 ∧ m = bs.length + 10 ∧ m ≤ cap ∧ Rd w' B (u8s (putL k.toNat bs))) ∨ (¬ (0 ≤ k ∧ k ≤ 255 ∧ bs.length ≤ 255) ∧ E = 1 ∧ B = none ∧ m = 0 ∧ cap = 0)
theorem put_any (k : Int) (A : Option Addr) (c : Nat) (bs : List Nat) (w : World) (hb : ∀ x ∈ bs, x < 256) (hr : Rd w A (u8s bs)) :
    Calls Tryz.prog 136 #[.agg #[.int .i64 k, .slice A bs.length c]] w fun e w' => ∃ B m cap E, e = .returned (.tuple #[.slice B m cap, .int .i64 ((E : Nat) : Int)]) ∧ PutSays k bs w' B m cap E ∧ Below w.heap.size w w' := by
  by_cases h : 0 ≤ k ∧ k ≤ 255 ∧ bs.length ≤ 255
  · obtain ⟨h0, h1, h2⟩ := h
    obtain ⟨q, rfl⟩ := Int.eq_ofNat_of_zero_le h0
    refine (put_ok q A bs.length c bs w (by omega) rfl (by omega) hb hr).mono fun e w' ⟨g, cap, he, hcap, _, _, hrd, hB⟩ => ⟨_, _, cap, 0, he, .inl ⟨h0, h1, h2, rfl, rfl, hcap, ?_⟩, hB⟩
    rw [show ((q : Int)).toNat = q by omega]
    exact hrd
  · exact (put_bad k A bs.length c w h).mono fun e w' ⟨he, hB⟩ => ⟨none, 0, 0, 1, he, .inr ⟨h, rfl, rfl, rfl, rfl⟩, hB⟩
theorem putSays_len {k : Int} {bs : List Nat} {w' : World} {B : Option Addr} {m cap E : Nat} (h : PutSays k bs w' B m cap E) : m ≤ 265 := by
  rcases h with ⟨_, _, h1, _, h2, _⟩ | ⟨_, _, _, h2, _⟩ <;> omega
end Go.Proofs.YtnmgdaaddfdffaaGreatDoor

/- Damage of some of 32 bits, one behind the other, within a frame's bytes: it is refused. No program. No condition. -/
namespace Go.Proofs.YtnmgdaaddfdffaaGreatDoor

theorem val_take : ∀ (k : Nat) (x : List Nat), (∀ y ∈ x, y < 256) → val (x.take k) = val x % 256 ^ k
  | 0, x, _ => by simp [val, Nat.mod_one]
  | k + 1, [], _ => by simp [val]
  | k + 1, d :: r, h => by
    have hd : d < 256 := h d (by simp)
    have ih := val_take k r fun y hy => h y (by simp [hy])
    simp only [List.take_succ_cons, val]
    rw [ih, Nat.pow_succ, Nat.mul_comm (256 ^ k) 256, Nat.mod_mul, Nat.add_mul_mod_self_left, Nat.mod_eq_of_lt hd, Nat.add_mul_div_left _ _ (by omega), Nat.div_eq_of_lt hd, Nat.zero_add]
theorem val_drop : ∀ (k : Nat) (x : List Nat), (∀ y ∈ x, y < 256) → val (x.drop k) = val x / 256 ^ k
  | 0, x, _ => by simp
  | k + 1, [], _ => by simp [val]
  | k + 1, d :: r, h => by
    have hd : d < 256 := h d (by simp)
    have ih := val_drop k r fun y hy => h y (by simp [hy])
    simp only [List.drop_succ_cons, val]
    rw [ih, Nat.pow_succ, Nat.mul_comm (256 ^ k) 256, ← Nat.div_div_eq_div_mul, Nat.add_mul_div_left _ _ (by omega), Nat.div_eq_of_lt hd, Nat.zero_add]
theorem val_inj : ∀ (x y : List Nat), x.length = y.length → (∀ z ∈ x, z < 256) → (∀ z ∈ y, z < 256) → val x = val y → x = y
  | [], [], _, _, _, _ => rfl
  | a :: x, b :: y, hl, hx, hy, h => by
    have ha : a < 256 := hx a (by simp)
    have hb : b < 256 := hy b (by simp)
    simp only [val] at h
    have h1 : a = b := by omega
    have h2 : val x = val y := by omega
    rw [h1, val_inj x y (by simpa using hl) (fun z hz => hx z (by simp [hz])) (fun z hz => hy z (by simp [hz])) h2]
  | [], _ :: _, hl, _, _, _ => by simp at hl
  | _ :: _, [], hl, _, _, _ => by simp at hl
theorem pow_split (a b : Nat) (h : a ≤ b) : 2 ^ b = 2 ^ (b - a) * 2 ^ a := by rw [← Nat.pow_add]; congr 1; omega
/-- The part of a window that lies within the first 48 bits. -/
theorem window_low {mask a : Nat} (hm : mask < 4294967296) (h : mask * 2 ^ a % 2 ^ 48 ≠ 0) : ∃ m a', m < 4294967296 ∧ m ≠ 0 ∧ a' + 32 ≤ 48 ∧ mask * 2 ^ a % 2 ^ 48 = m * 2 ^ a' := by
  by_cases h1 : a ≤ 16
  · refine ⟨mask, a, hm, fun e => h (by rw [e]; simp), by omega, Nat.mod_eq_of_lt ?_⟩
    have : 2 ^ a ≤ 2 ^ 16 := Nat.pow_le_pow_right (by omega) h1
    calc mask * 2 ^ a ≤ mask * 2 ^ 16 := Nat.mul_le_mul_left _ this
      _ < 2 ^ 48 := by omega
  · by_cases h2 : a < 48
    · have e : mask * 2 ^ a % 2 ^ 48 = mask % 2 ^ (48 - a) * 2 ^ a := by rw [pow_split a 48 (by omega), Nat.mul_mod_mul_right]
      have e2 : mask % 2 ^ (48 - a) * 2 ^ a = mask % 2 ^ (48 - a) * 2 ^ (a - 16) * 2 ^ 16 := by rw [pow_split 16 a (by omega), Nat.mul_assoc]
      refine ⟨mask % 2 ^ (48 - a) * 2 ^ (a - 16), 16, ?_, fun e3 => h (by rw [e, e2, e3]), by omega, e.trans e2⟩
      have h3 : mask % 2 ^ (48 - a) < 2 ^ (48 - a) := Nat.mod_lt _ (Nat.pow_pos (by omega))
      have h4 : 2 ^ (48 - a) * 2 ^ (a - 16) = 4294967296 := by rw [← Nat.pow_add, show 48 - a + (a - 16) = 32 by omega]
      rw [← h4]
      exact Nat.mul_lt_mul_of_pos_right h3 (Nat.pow_pos (by omega))
    · refine (h ?_).elim
      rw [pow_split 48 a (by omega), ← Nat.mul_assoc, Nat.mul_mod_left]
/-- The part of a window behind the first 48 bits, if nothing of it lies within them. -/
theorem window_high {mask a n : Nat} (hm : mask < 4294967296) (h0 : mask ≠ 0) (ha : a + 32 ≤ 48 + n) (hn : 32 ≤ n) (h : mask * 2 ^ a % 2 ^ 48 = 0) : ∃ m a', m < 4294967296 ∧ m ≠ 0 ∧ a' + 32 ≤ n ∧ mask * 2 ^ a / 2 ^ 48 = m * 2 ^ a' := by
  by_cases h1 : a < 48
  · refine ⟨mask * 2 ^ a / 2 ^ 48, 0, ?_, fun e => ?_, by omega, by simp⟩
    · rw [Nat.div_lt_iff_lt_mul (Nat.pow_pos (by omega))]
      have h2 : 2 ^ a ≤ 2 ^ 48 := Nat.pow_le_pow_right (by omega) (by omega)
      calc mask * 2 ^ a < 4294967296 * 2 ^ a := Nat.mul_lt_mul_of_pos_right hm (Nat.pow_pos (by omega))
        _ ≤ 4294967296 * 2 ^ 48 := Nat.mul_le_mul_left _ h2
    · have h2 := Nat.div_add_mod (mask * 2 ^ a) (2 ^ 48)
      rw [e, h] at h2
      rcases Nat.mul_eq_zero.1 (show mask * 2 ^ a = 0 by omega) with h3 | h3
      · exact h0 h3
      · exact absurd h3 (Nat.ne_of_gt (Nat.pow_pos (by omega)))
  · refine ⟨mask, a - 48, hm, h0, by omega, ?_⟩
    rw [pow_split 48 a (by omega), ← Nat.mul_assoc, Nat.mul_div_cancel _ (Nat.pow_pos (by omega))]
theorem frame_burst {q : Nat} {body x : List Nat} (hq : q < 256) (hl : body.length < 256) (hb : ∀ y ∈ body, y < 256) (hx : ∀ y ∈ x, y < 256) (hxl : x.length = body.length + 10) (mask a : Nat) (hm : mask < 4294967296) (h0 : mask ≠ 0) (ha : a + 32 ≤ 8 * (body.length + 10))
    (hv : val x = val (putL q body) ^^^ mask * 2 ^ a) (r : List Nat) : getE (x ++ r) ≠ 0 := by
  intro hE
  obtain ⟨_, hg, _, hgb⟩ := get_ok hE
  have hpb := putL_byte (k := q) hq hl hb
  have hpl := putL_length q body
  have e256 : (256 : Nat) ^ 6 = 2 ^ 48 := by decide
  have hx6 : (x ++ r).take 6 = x.take 6 := List.take_append_of_le_length (by omega)
  have hp6 := putL_take6 q body []
  have hp7 := putL_drop6 q body []
  rw [List.append_nil] at hp6 hp7
  rw [List.append_nil] at hp7
  have hv1 : val (x.take 6) = val (sealL [q, body.length]) ^^^ mask * 2 ^ a % 2 ^ 48 := by
    rw [val_take 6 x hx, hv, e256, Nat.xor_mod_two_pow, ← hp6, val_take 6 _ hpb, e256]
  have hsb : ∀ y ∈ sealL [q, body.length], y < 256 := sealL_byte (by intro y hy; simp at hy; omega)
  have hsl : (sealL [q, body.length]).length = 6 := head_length q body.length
  have ht6 : (x.take 6).length = 6 := by rw [List.length_take]; omega
  have htb : ∀ y ∈ x.take 6, y < 256 := fun y hy => hx y (List.mem_of_mem_take hy)
  by_cases hd : mask * 2 ^ a % 2 ^ 48 = 0
  · rw [hd, Nat.xor_zero] at hv1
    have heq := val_inj _ _ (by rw [ht6, hsl]) htb hsb hv1
    have h1 : (x ++ r).getD 1 0 = body.length := by
      have e1 : (x ++ r).getD 1 0 = ((x ++ r).take 6).getD 1 0 := by rw [List.getD_eq_getElem?_getD, List.getD_eq_getElem?_getD, List.getElem?_take, if_pos (by omega)]
      rw [e1, hx6, heq]
      rfl
    obtain ⟨m, a', hm', hm0, ha', he⟩ := window_high (n := 8 * (body.length + 4)) hm h0 (by omega) (by omega) hd
    have hxd : ((x ++ r).drop 6).take ((x ++ r).getD 1 0 + 4) = x.drop 6 := by
      rw [h1, List.drop_append_of_le_length (by omega), List.take_append_of_le_length (by rw [List.length_drop]; omega), List.take_of_length_le (by rw [List.length_drop]; omega)]
    have hv2 : val (x.drop 6) = val (sealL body) ^^^ m * 2 ^ a' := by
      rw [val_drop 6 x hx, hv, e256, Nat.xor_div_two_pow, he, ← hp7, val_drop 6 _ hpb, e256]
    have := burst (s := sealL body) (x := x.drop 6) (sealL_byte hb) (fun y hy => hx y (List.mem_of_mem_drop hy)) (by rw [List.length_drop, sealL_length]; omega) m a' hm' hm0 (by rw [sealL_length]; omega) hv2 (good_seal _)
    rw [hxd, this] at hgb
    cases hgb
  · obtain ⟨m, a', hm', hm0, ha', he⟩ := window_low hm hd
    rw [he] at hv1
    have := burst (s := sealL [q, body.length]) (x := x.take 6) hsb htb (by rw [ht6, hsl]) m a' hm' hm0 (by rw [hsl]; omega) hv1 (good_seal _)
    rw [hx6, this] at hg
    cases hg
end Go.Proofs.YtnmgdaaddfdffaaGreatDoor

/- The contract of the laws' own Flip: bytes, some of 32 bits of which are turned round, from one on: as a number, the bytes' number with these bits turned round. Condition: there are so many bits, and at most 1,000,000 bytes. -/
namespace Go.Proofs.YtnmgdaaddfdffaaGreatDoor
open Go.RowKit

set_option maxRecDepth 100000 in
set_option maxHeartbeats 2000000 in
theorem flip_any (A : Option Addr) (c n : Nat) (sl : List Nat) (mask a : Nat) (w : World) (hsl : sl.length = n) (hn0 : 0 < n) (hn : n ≤ 1000000) (hsb : ∀ x ∈ sl, x < 256) (hr : Rd w A (u8s sl)) (hmask : mask < 4294967296) (ha : a + 32 ≤ 8 * n) :
    Calls Tryz.prog 24 #[.slice A n c, .int .u32 (mask : Int), .int .i64 (a : Int)] w fun e w' => ∃ g cap ys, e = .returned (.slice (some ⟨g, 0, none⟩) n cap) ∧ n ≤ cap ∧ ys.length = n ∧ (∀ y ∈ ys, y < 256) ∧ val ys = val sl ^^^ mask * 2 ^ a ∧ Rd w' (some ⟨g, 0, none⟩) (u8s ys) ∧ Below w.heap.size w w' := by
  obtain ⟨j0, hj, hz0, hz1, hz2⟩ := info_parts info_u8
  have hevn := fun v m e => burst_even (val sl ^^^ mask * 2 ^ a) v m e
  have hodd := fun m e ys => burst_odd (val sl ^^^ mask * 2 ^ a) m e ys
  generalize hT : val sl ^^^ mask * 2 ^ a = T at *
  have Hevn := Lib.hid hevn
  have Hodd := Lib.hid hodd
  have HT := Lib.hid hT
  clear hevn hodd hT
  go_enter Tryz.func24, Tryz.ntmps24
  go_wp2_with (first
    | (at_builtin; refine wpList_app rfl (.const (.slice none 0 0)) (.tmp 11) 29 rfl w.heap.size 5 j0 (.int .u8 0) 1 Tryz.underlying29 hj hz0 hz1 hz2 rfl (.slice none 0 0) 0 [] rfl (World.ownsRow_nil _ _ _ _) A n c (u8s sl) rfl (by rw [u8s_length, hsl]) hr (u8s_one _) (by simp only [maxLen]; omega) (by omega) (Nat.le_refl _) ?_; intro v4 w4 hown4 hg4 _; simp only [Nat.zero_add, List.nil_append] at hown4; obtain ⟨g4, cap4, hv4, hbase, hlt4, hcap4, hc4⟩ := own_open hown4 (by omega); subst hv4)
    | fail)
  have hB4 : Below w.heap.size w w4 := (Below.refl _ w).grown hg4 (Nat.le_refl _) (fun k hk => by cases hk)
  clear hc4 hg4 hr
  go_loopw [1, 8] (fun mv iv wr => ∃ (k m : Nat) (ys : List Nat), k ≤ 32 ∧ iv = .int .i64 (k : Int) ∧ mv = .int .u32 (m : Int) ∧ m < 2 ^ (32 - k) ∧ ys.length = n ∧ (∀ y ∈ ys, y < 256) ∧ val ys ^^^ m * 2 ^ (a + k) = T ∧ wr.ownsRow w.heap.size 5 1 (.slice (some ⟨g4, 0, none⟩) n cap4) n (u8s ys) ∧ Below w.heap.size w wr) (fun _ iv _ => 32 - (intOf iv).toNat)
  case atStart => exact ⟨0, mask, sl, by omega, rfl, rfl, hmask, hsl, hsb, HT.out, hown4, hB4⟩
  case round =>
    obtain ⟨k, m, ys, hk, rfl, rfl, hm, hyl, hyb, hv, hown, hB⟩ := hrel
    by_cases hk32 : k < 32
    · have hm' : m < 4294967296 := Nat.lt_of_lt_of_le hm (show 2 ^ (32 - k) ≤ 2 ^ 32 from Nat.pow_le_pow_right (by omega) (by omega))
      have hm2 : m / 2 < 2 ^ (32 - (k + 1)) := by
        have := hm
        rw [show 32 - k = 32 - (k + 1) + 1 by omega, Nat.pow_succ] at this
        omega
      have hpl : (a + k) / 8 < ys.length := by omega
      have Hm := Lib.hid hm
      have Hm2 := Lib.hid hm2
      clear hm hm2
      have hk32' : (k : Int) < 32 := by omega
      rcases Nat.mod_two_eq_zero_or_one m with hmod | hmod
      · have hnx := Hevn.out _ _ _ hv hmod
        have Hnx := Lib.hid hnx
        clear hnx hv
        have hmod' : ((m : Int) % 2 == 1) = false := by rw [beq_eq_false_iff_ne]; omega
        go_wp2
        go_roundw
        case rel => exact ⟨k + 1, m / 2, ys, by omega, by go_num, by go_num, Hm2.out, hyl, hyb, Hnx.out, hown, hB⟩
        case measure => simp [intOf]; omega
      · have hnx := Hodd.out _ _ ys hyb hpl hv hmod
        have hgd := getD_lt hyb hpl
        have hcell := hown.cellAt ((a + k) / 8) (by omega)
        rw [u8s_getD hpl] at hcell
        have hfz := hown.frozenAt ((a + k) / 8)
        have hpw : 2 ^ ((a + k) % 8) < 256 := Nat.pow_lt_pow_right (a := 2) (m := (a + k) % 8) (n := 8) (by omega) (by omega)
        have hxor := u8_xor_nat (ys.getD ((a + k) / 8) 0) (2 ^ ((a + k) % 8)) hgd hpw
        have hxl := xor_lt8 hgd hpw
        generalize ys.getD ((a + k) / 8) 0 = d at *
        have hpw2 : ∀ j, j < (a + k) % 8 → 2 ^ (j + 1) < 256 := fun j hj => Nat.pow_lt_pow_right (a := 2) (m := j + 1) (n := 8) (by omega) (by omega)
        have Hpw2 := Lib.hid hpw2
        have Hnx := Lib.hid hnx
        have Hpw := Lib.hid hpw
        have Hxor := Lib.hid hxor
        clear hnx hv hpw2 hpw hxor
        have hmod' : ((m : Int) % 2 == 1) = true := by rw [beq_iff_eq]; omega
        go_wp2
        go_loop [9, 10] (fun bv jv => ∃ j : Nat, j ≤ (a + k) % 8 ∧ jv = .int .i64 (j : Int) ∧ bv = .int .u8 ((2 ^ j : Nat) : Int)) (fun _ jv => 8 - (intOf jv).toNat)
        case atStart => exact ⟨0, by omega, rfl, rfl⟩
        case round =>
          obtain ⟨j, hjl, rfl, rfl⟩ := hrel
          by_cases hjlt : j < (a + k) % 8
          · have hp1 := Hpw2.out j hjlt
            rw [Nat.pow_succ] at hp1
            have hpn : (2 * 2 ^ j : Nat) = 2 ^ (j + 1) := by rw [Nat.pow_succ, Nat.mul_comm]
            have Hpn := Lib.hid hpn
            clear hpn
            generalize 2 ^ j = bj at *
            have hj1 : (j : Int) < ((a : Int) + (k : Int)) % 8 := by omega
            go_wp2
            refine ⟨⟨j + 1, hjlt, by go_num, by rw [← Hpn.out]; go_num⟩, ?_⟩
            simp [intOf]; omega
          · obtain rfl : j = (a + k) % 8 := by omega
            have hxor := Hxor.out
            obtain ⟨hst, _⟩ := hown.stored ((a + k) / 8) (.int .u8 ((d ^^^ 2 ^ ((a + k) % 8) : Nat) : Int))
            rw [u8s_set] at hst
            have hbs := set_byte hyb ((a + k) / 8) hxl
            have hB5 := hB.setCell (p := ⟨g4, (a + k) / 8, none⟩) hbase (.int .u8 ((d ^^^ 2 ^ ((a + k) % 8) : Nat) : Int))
            have hls : (ys.set ((a + k) / 8) (d ^^^ 2 ^ ((a + k) % 8))).length = n := by rw [List.length_set]; exact hyl
            have Hst := Lib.hid hst
            have HB5 := Lib.hid hB5
            generalize hpd : (a + k) / 8 = p at *
            generalize hrd : (a + k) % 8 = r at *
            generalize 2 ^ r = pw at *
            generalize d ^^^ pw = d' at *
            have hdiv : ((a : Int) + (k : Int)) / 8 = (p : Int) := by omega
            have hp1 : (p : Int) < (n : Int) := by omega
            have hp2 : p < n := by omega
            have hr1 : ((a : Int) + (k : Int)) % 8 = (r : Int) := by omega
            have hr2 : decide ((r : Int) < (r : Int)) = false := by simp
            clear hst hB5 hpd hrd
            go_wp2
            refine ⟨⟨k + 1, m / 2, ys.set p d', by omega, by go_num, by go_num, Hm2.out, hls, hbs, Hnx.out, Hst.out, HB5.out⟩, ?_⟩
            simp [intOf]; omega
    · obtain rfl : k = 32 := by omega
      obtain rfl : m = 0 := by simp at hm; omega
      rw [Nat.zero_mul, Nat.xor_zero] at hv
      have HV := Lib.hid hv
      clear hv
      go_wp2
      go_ret
      exact ⟨g4, cap4, ys, rfl, hcap4, hyl, hyb, HV.out, Rd.own hown, hB⟩
end Go.Proofs.YtnmgdaaddfdffaaGreatDoor
