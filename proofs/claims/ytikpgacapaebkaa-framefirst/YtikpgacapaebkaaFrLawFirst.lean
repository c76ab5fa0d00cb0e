/- FrameFirst's walk. -/
import Derived.Test.YtikpgacapaebkaaFrLawHead
namespace Go.Proofs.Ytikpgacapaebkaa
open Go.RowKit

/-- A slice of frames with something in it: the first one's two cells. -/
theorem fra_first {S : Nat → Prop} {w : World} {v : Value} {f : Fra} {l : List Fra} (h : rSlice 2 rFra S w [v] (f :: l)) : ∃ b off c A c', v = .slice (some ⟨b, off, none⟩) (l.length + 1) c ∧ S b ∧ w.cell? ⟨b, off, none⟩ = some (.int .i64 f.1) ∧ w.cell? ⟨b, off + 1, none⟩ = some (.slice A f.2.length c') ∧ (∀ x ∈ f.2, x < 256) ∧ RdIn S w A (u8s f.2) ∧ l.length + 1 ≤ maxLen := by
  obtain ⟨A0, c, xs, hv, hlc, hcm, hr, hl, hch⟩ := h
  obtain ⟨A, c', hcs, _, _, hby, _, hrd⟩ := rFra_open (hch 0 f rfl)
  simp only [List.length_cons] at hl hv
  match xs, hl with
  | x :: y :: r, _ =>
    simp only [Nat.zero_mul, List.drop_zero, List.take_succ_cons, List.take_zero, List.cons.injEq, and_true] at hcs
    obtain ⟨rfl, rfl⟩ := hcs
    rcases hr with h | ⟨b, off, rfl, hb, hc⟩
    · cases h
    · exact ⟨b, off, c, A, c', by simpa using hv, hb, hc 0 _ rfl, hc 1 _ rfl, hby, hrd, Nat.le_trans hlc hcm⟩
  | [], hl => simp at hl
  | [_], hl => simp at hl; omega

set_option maxRecDepth 100000 in
set_option maxHeartbeats 2000000 in
theorem frameFirst_walk (w : World) (A : Option Addr) (c : Nat) (bs : List Nat) (hl : bs.length ≤ c) (_hm : c ≤ maxLen) (hb : ∀ x ∈ bs, x < 256) (hr : Rd w A (u8s bs)) :
    Calls Try.prog 9 #[.slice A bs.length c] w fun e w' => e = .returned (.bool true) ∧ Below w.heap.size w w' := by
  obtain ⟨hz, hsz⟩ := zero_of_info info_fr
  have AW := Lib.hid (awake_any w)
  by_cases h6 : bs.length ≤ 600
  · by_cases h0 : bs.length = 0
    · go_enter Try.func9, Try.ntmps9
      go_wp2_with fail
      refine AW.out.mono ?_
      rintro e w1 ⟨rfl, hB1⟩
      have hd0 : ((bs.length : Int) == 0) = true := by rw [beq_iff_eq]; omega
      have hd1 : decide ((600 : Int) < (bs.length : Int)) = false := by rw [decide_eq_false_iff_not]; omega
      go_wp2
      go_ret
      exact ⟨rfl, hB1⟩
    · have hne : bs ≠ [] := fun h => h0 (by rw [h]; rfl)
      have hd0 : ((bs.length : Int) == 0) = false := by rw [beq_eq_false_iff_ne]; omega
      have hd1 : decide ((600 : Int) < (bs.length : Int)) = false := by rw [decide_eq_false_iff_not]; omega
      obtain ⟨b, off, rfl, hblt, _⟩ := hr.at (k := 0) (by simp; omega)
      have L1 := Lib.hid (fun W h => all_any (some ⟨b, off, none⟩) c bs.length bs W rfl hl hb h (by omega))
      have G1 := Lib.hid (fun W h => get_any (some ⟨b, off, none⟩) c bs.length bs W rfl hl hb h (by omega))
      by_cases hE : getE bs = 0
      · have hall := allL_ok hne hE
        obtain ⟨hN1, hN2⟩ := getN_pos hE
        have L2 := Lib.hid (fun W B d h1 h => all_any B d (bs.length - getN bs) (bs.drop (getN bs)) W (by rw [List.length_drop]) h1 (fun x hx => hb x (List.mem_of_mem_drop hx)) h (by omega))
        have hrdrop : ∀ W, Rd W (some ⟨b, off, none⟩) (u8s bs) → Rd W (some ⟨b, off + getN bs, none⟩) (u8s (bs.drop (getN bs))) := fun W h => by rw [← u8s_drop]; exact h.drop _
        have hdnil : getN bs = bs.length → u8s (bs.drop (getN bs)) = [] := fun h => by rw [h, List.drop_length]; rfl
        have hFb := getF_byte hb
        rw [hE] at G1
        generalize hallr : allL (bs.drop (getN bs)) = r at *
        clear hallr
        obtain ⟨re, rl⟩ := r
        generalize getF bs = F at *
        generalize getN bs = N at *
        have Hdrop := Lib.hid hrdrop
        have Hdnil := Lib.hid hdnil
        clear hrdrop hdnil hE
        have hdN0 : decide ((N : Int) < 10) = false := by rw [decide_eq_false_iff_not]; omega
        have hdN1 : decide ((bs.length : Int) < (N : Int)) = false := by rw [decide_eq_false_iff_not]; omega
        have hN3 : (N : Int) ≤ (bs.length : Int) := by omega
        have hN4 : (bs.length : Int) ≤ (c : Int) := by omega
        by_cases hre : re = 0
        · subst hre
          rw [if_neg (by simp)] at hall
          rw [hall] at L1
          clear hall
          have S1 := Lib.hid (fun W A1 c1 A2 c2 h1 h2 => same_any A1 A2 F.1 F.1 F.2.length c1 F.2.length c2 F.2 F.2 W rfl rfl hFb hFb h1 h2)
          go_enter Try.func9, Try.ntmps9
          go_wp2_with fail
          refine AW.out.mono ?_
          rintro e w1 ⟨rfl, hB1⟩
          have hr1 := hr.below hB1
          go_wp2_with fail
          refine (L1.out _ hr1).mono ?_
          rintro e w2 ⟨v2, rfl, hsl, hB2⟩
          obtain ⟨b2, off2, c2, A2, c2', rfl, hb2, hl0, hl1, _, hlr, hrll⟩ := fra_first hsl
          have hww : IntKind.i64.wrap ((rl.length : Int) + 1) = (rl.length : Int) + 1 := IntWalk.i64_in _ (by simp only [maxLen] at hrll; omega)
          have hr2 := hr1.below hB2
          have hB2' : Below w.heap.size w w2 := hB1.trans (hB2.mono hB1.size)
          clear hB1 hB2 hr1 L1 AW hsl
          go_wp2_with fail
          refine (G1.out _ hr2).mono ?_
          rintro e w3 ⟨A3, c3, rfl, hc3, hm3, hrd3, hB3⟩
          have hr3 := hr2.below hB3
          have hl03 := (hB3.cell (p := ⟨b2, off2, none⟩) hb2).trans hl0
          have hl13 := (hB3.cell (p := ⟨b2, off2 + 1, none⟩) hb2).trans hl1
          have hlr3 := (RdIn.rd hlr).below hB3
          have hb3 : b2 < w3.heap.size := Nat.lt_of_lt_of_le hb2 hB3.size
          have hB3' : Below w.heap.size w w3 := hB2'.trans (hB3.mono hB2'.size)
          have hrd3' : Rd w3 A3 (u8s F.2) := RdIn.rd (hrd3.keeps (Keeps.mono fun _ h => h.2))
          have hAl : Below w3.heap.size w3 (w3.alloc (.cells #[.int .i64 F.1, .slice A3 F.2.length c3] 24)) := (Below.refl _ w3).alloc (Nat.le_refl _) _
          have hbx := Blk.new w3 24 [.int .i64 F.1, .slice A3 F.2.length c3]
          have hr4 := hr3.below hAl
          have hcon : ∃ B d, (B, d) = (if c = N then ((some ⟨b, off, none⟩ : Option Addr), 0) else (some ⟨b, off + N, none⟩, c - N)) ∧ bs.length - N ≤ d ∧ Rd (w3.alloc (.cells #[.int .i64 F.1, .slice A3 F.2.length c3] 24)) B (u8s (bs.drop N)) := by
            by_cases hcN : c = N
            · exact ⟨_, _, by rw [if_pos hcN], by omega, .inl (Hdnil.out (by omega))⟩
            · exact ⟨_, _, by rw [if_neg hcN], by omega, Hdrop.out _ hr4⟩
          obtain ⟨B, d, hBd, hd, hrB⟩ := hcon
          have L3 := Lib.hid (L2.out _ B d hd hrB)
          clear hB2' hB3 hr2 hr3 G1 L2 hrB hl0 hl1 hlr hrd3 Hdrop Hdnil hr4
          by_cases hcN : c = N
          all_goals
            first
              | (rw [if_pos hcN] at hBd; injection hBd with e1 e2; subst e1 e2 hcN; go_wp2_with fail; have L4 := L3.out; rw [show bs.length - c = 0 by omega] at L4; refine L4.mono ?_; clear L4)
              | (rw [if_neg hcN] at hBd; injection hBd with e1 e2; subst e1 e2; go_wp2_with fail; refine L3.out.mono ?_)
            rintro e w4 ⟨v4, rfl, ⟨A4, c4, xs4, hv4, _⟩, hB4⟩
            obtain rfl : v4 = .slice A4 rl.length c4 := by simpa using hv4
            have hbx4 := hbx.below hbx.lt hB4
            have hb4 : b2 < w4.heap.size := Nat.lt_of_lt_of_le hb3 (Nat.le_trans hAl.size hB4.size)
            have hg4 := hbx4.lt
            have hl04 := (hB4.cell (p := ⟨b2, off2, none⟩) (Nat.lt_of_lt_of_le hb3 hAl.size)).trans ((hAl.cell (p := ⟨b2, off2, none⟩) hb3).trans hl03)
            have hl14 := (hB4.cell (p := ⟨b2, off2 + 1, none⟩) (Nat.lt_of_lt_of_le hb3 hAl.size)).trans ((hAl.cell (p := ⟨b2, off2 + 1, none⟩) hb3).trans hl13)
            have hc0 := hbx4.cell (j := 0) rfl
            have hc1 := hbx4.cell (j := 1) rfl
            have hra4 := (hlr3.below hAl).below hB4
            have hrb4 := (hrd3'.below hAl).below hB4
            have hB4' : Below w.heap.size w w4 := (hB3'.trans (hAl.mono hB3'.size)).trans (hB4.mono (hB3'.trans (hAl.mono hB3'.size)).size)
            have hS := S1.out w4.drew A2 c2' A3 c3 hra4 hrb4
            rw [show (F.1 == F.1 && F.2 == F.2) = true by simp] at hS
            have HS := Lib.hid hS
            have hee : (((rl.length : Int) + 1) == ((rl.length : Int) + 1)) = true := by simp
            have hlt0 : (0 : Int) < (rl.length : Int) + 1 := by omega
            clear hB4 hAl hbx hbx4 hB3' hl03 hl13 hlr3 hrd3' S1 L3 hS hv4 hb3 hb2 hrll
            go_wp2_with fail
            refine sch_start [(0, true), (1, true), (2, true), (3, true), (4, true), (5, true), (6, true), (7, true), (8, true), (9, true), (10, true), (11, true), (12, true), (13, true), (14, true), (15, true), (16, true), (17, true), (18, true), (19, true), (20, true), (21, true), (22, true), (23, true), (24, true), (25, true), (26, true), (27, false), (28, true), (29, true), (30, true), (31, true)]
              (fun W => W.cell? ⟨b2, off2, none⟩ = some (.int .i64 F.1) ∧ W.cell? ⟨b2, off2 + 1, none⟩ = some (.slice A2 F.2.length c2') ∧ W.cell? ⟨w3.heap.size, 0, none⟩ = some (.int .i64 F.1) ∧ W.cell? ⟨w3.heap.size, 1, none⟩ = some (.slice A3 F.2.length c3)) (by kernel_rfl) rfl (by kernel_rfl) (fun _ _ _ _ _ h => h) ⟨hl04, hl14, hc0, hc1⟩ (fun hH => ?_)
            repeat (first | (refine sch_yes (v := ?_) rfl rfl ?_ hH ?_; rotate_left; (focus ((rintro W ⟨hW1, hW2, hW3, hW4⟩; go_simp) <;> with_reducible rfl)); simp only [Act.put, List.setIfInBounds_toArray, List.set_cons_zero, List.set_cons_succ]) | (refine sch_no rfl rfl hH ?_; simp only [Act.put, List.setIfInBounds_toArray, List.set_cons_zero, List.set_cons_succ]))
            refine sch_call rfl rfl (fun K hK => ?_)
            go_wp2_with (go_at_call 19; refine HS.out.mono ?_; rintro e w5 ⟨rfl, hB5⟩)
            have hH5 := And.intro ((hB5.cell (p := ⟨b2, off2, none⟩) hb4).trans hH.1) (And.intro ((hB5.cell (p := ⟨b2, off2 + 1, none⟩) hb4).trans hH.2.1) (And.intro ((hB5.cell (p := ⟨w3.heap.size, 0, none⟩) hg4).trans hH.2.2.1) ((hB5.cell (p := ⟨w3.heap.size, 1, none⟩) hg4).trans hH.2.2.2)))
            refine hK.out _ _ hH5 ?_
            clear hK hH
            have hH := hH5
            clear hH5
            repeat (first | (refine sch_yes (v := ?_) rfl rfl ?_ hH ?_; rotate_left; (focus ((rintro W ⟨hW1, hW2, hW3, hW4⟩; go_simp) <;> with_reducible rfl)); simp only [Act.put, List.setIfInBounds_toArray, List.set_cons_zero, List.set_cons_succ]) | (refine sch_no rfl rfl hH ?_; simp only [Act.put, List.setIfInBounds_toArray, List.set_cons_zero, List.set_cons_succ]))
            refine sch_done ?_
            go_wp2
            go_ret
            exact ⟨rfl, hB4'.drew.trans (hB5.mono hB4'.size)⟩
        · rw [if_pos (by simpa using hre)] at hall
          rw [hall] at L1
          clear hall
          have hred : ((re : Int) != 0) = true := by rw [bne_iff_ne]; omega
          have hree : ((re : Int) == (re : Int)) = true := by simp
          go_enter Try.func9, Try.ntmps9
          go_wp2_with fail
          refine AW.out.mono ?_
          rintro e w1 ⟨rfl, hB1⟩
          have hr1 := hr.below hB1
          go_wp2_with fail
          refine (L1.out _ hr1).mono ?_
          rintro e w2 ⟨v2, rfl, ⟨A2, c2, xs2, hv2, _⟩, hB2⟩
          obtain rfl : v2 = .slice A2 0 c2 := by simpa using hv2
          have hr2 := hr1.below hB2
          have hB2' : Below w.heap.size w w2 := hB1.trans (hB2.mono hB1.size)
          clear hB1 hB2 hr1 L1 AW
          go_wp2_with fail
          refine (G1.out _ hr2).mono ?_
          rintro e w3 ⟨A3, c3, rfl, hc3, hm3, hrd3, hB3⟩
          have hr3 := hr2.below hB3
          have hB3' : Below w.heap.size w w3 := hB2'.trans (hB3.mono hB2'.size)
          have hAl : Below w3.heap.size w3 (w3.alloc (.cells #[.int .i64 F.1, .slice A3 F.2.length c3] 24)) := (Below.refl _ w3).alloc (Nat.le_refl _) _
          have hr4 := hr3.below hAl
          have hcon : ∃ B d, (B, d) = (if c = N then ((some ⟨b, off, none⟩ : Option Addr), 0) else (some ⟨b, off + N, none⟩, c - N)) ∧ bs.length - N ≤ d ∧ Rd (w3.alloc (.cells #[.int .i64 F.1, .slice A3 F.2.length c3] 24)) B (u8s (bs.drop N)) := by
            by_cases hcN : c = N
            · exact ⟨_, _, by rw [if_pos hcN], by omega, .inl (Hdnil.out (by omega))⟩
            · exact ⟨_, _, by rw [if_neg hcN], by omega, Hdrop.out _ hr4⟩
          obtain ⟨B, d, hBd, hd, hrB⟩ := hcon
          have L3 := Lib.hid (L2.out _ B d hd hrB)
          clear hB2' hB3 hr2 hr3 G1 L2 hrB hrd3 Hdrop Hdnil hr4
          by_cases hcN : c = N
          all_goals
            first
              | (rw [if_pos hcN] at hBd; injection hBd with e1 e2; subst e1 e2 hcN; go_wp2_with fail; have L4 := L3.out; rw [show bs.length - c = 0 by omega] at L4; refine L4.mono ?_; clear L4)
              | (rw [if_neg hcN] at hBd; injection hBd with e1 e2; subst e1 e2; go_wp2_with fail; refine L3.out.mono ?_)
            rintro e w4 ⟨v4, rfl, ⟨A4, c4, xs4, hv4, _⟩, hB4⟩
            obtain rfl : v4 = .slice A4 rl.length c4 := by simpa using hv4
            have hB4' : Below w.heap.size w w4 := (hB3'.trans (hAl.mono hB3'.size)).trans (hB4.mono (hB3'.trans (hAl.mono hB3'.size)).size)
            clear hB4 hAl hB3' L3
            go_wp2_with fail
            refine sch_start [(0, true), (1, true), (2, true), (3, true), (4, true), (5, true), (6, true), (7, true), (8, true), (9, true), (10, true), (11, true), (12, true), (13, true), (14, true), (15, true), (16, true), (17, true), (18, true), (19, true), (20, true), (21, true), (22, true), (23, true), (24, true), (25, true), (26, true), (27, false), (28, true), (29, true), (30, true), (31, true)]
              (fun _ => True) (by kernel_rfl) rfl (by kernel_rfl) (fun _ _ _ _ _ h => h) trivial (fun hH => ?_)
            repeat (first | (refine sch_yes (v := ?_) rfl rfl ?_ hH ?_; rotate_left; (focus ((intro W hW; go_simp) <;> with_reducible rfl)); simp only [Act.put, List.setIfInBounds_toArray, List.set_cons_zero, List.set_cons_succ]) | (refine sch_no rfl rfl hH ?_; simp only [Act.put, List.setIfInBounds_toArray, List.set_cons_zero, List.set_cons_succ]))
            refine sch_call_no rfl rfl hH ?_
            repeat (first | (refine sch_yes (v := ?_) rfl rfl ?_ hH ?_; rotate_left; (focus ((intro W hW; go_simp) <;> with_reducible rfl)); simp only [Act.put, List.setIfInBounds_toArray, List.set_cons_zero, List.set_cons_succ]) | (refine sch_no rfl rfl hH ?_; simp only [Act.put, List.setIfInBounds_toArray, List.set_cons_zero, List.set_cons_succ]))
            refine sch_done ?_
            go_wp2
            go_ret
            exact ⟨rfl, hB4'.drew⟩
      · have hall := allL_bad hne hE
        rw [hall] at L1
        have hEd : ((getE bs : Int) != 0) = true := by rw [bne_iff_ne]; omega
        generalize getE bs = E at *
        generalize getF bs = F at *
        generalize getN bs = N at *
        go_enter Try.func9, Try.ntmps9
        go_wp2_with fail
        refine AW.out.mono ?_
        rintro e w1 ⟨rfl, hB1⟩
        have hr1 := hr.below hB1
        go_wp2_with fail
        refine (L1.out _ hr1).mono ?_
        rintro e w2 ⟨v2, rfl, ⟨A2, c2, xs2, hv2, _⟩, hB2⟩
        obtain rfl : v2 = .slice A2 0 c2 := by simpa using hv2
        have hr2 := hr1.below hB2
        have hB2' : Below w.heap.size w w2 := hB1.trans (hB2.mono hB1.size)
        clear hB1 hB2 hr1 L1 AW hv2
        go_wp2_with fail
        refine (G1.out _ hr2).mono ?_
        rintro e w3 ⟨A3, c3, rfl, hc3, hm3, hrd3, hB3⟩
        have hee : ((E : Int) == (E : Int)) = true := by simp
        have hB3' : Below w.heap.size w w3 := hB2'.trans (hB3.mono hB2'.size)
        clear hB2' hB3
        go_wp2
        go_ret
        exact ⟨rfl, hB3'.alloc hB3'.size _⟩
  · go_enter Try.func9, Try.ntmps9
    go_wp2_with fail
    refine AW.out.mono ?_
    rintro e w1 ⟨rfl, hB1⟩
    go_wp2
    go_ret
    exact ⟨rfl, hB1⟩
end Go.Proofs.Ytikpgacapaebkaa
