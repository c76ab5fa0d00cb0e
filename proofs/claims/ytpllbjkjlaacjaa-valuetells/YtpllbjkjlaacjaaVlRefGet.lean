/- The contract of the document's own Get of layer 7: as value.Get's. Condition: a slice's own bound (2^47 bytes). -/
import Derived.Test.YtpllbjkjlaacjaaVlRefFits
import Derived.Test.YtpllbjkjlaacjaaVlGet
import Derived.Test.YtpllbjkjlaacjaaVaRef
namespace Go.Proofs.Ytpllbjkjlaacjaa
open Go.RowKit

theorem rget_len (A : Option Addr) (c n : Nat) (bs : List Nat) (w : World) (hn : bs.length = n) (hl : n ≤ c) (hb : ∀ x ∈ bs, x < 256) (hr : Rd w A (u8s bs)) (hlen : n ≤ 140737488355328) :
    Calls Try.prog 25 #[.slice A n c] w fun e w' => e = .returned (.tuple #[.int .u64 ((getL bs).1 : Int), .int .i64 ((getL bs).2 : Int)]) ∧ Below w.heap.size w w' := by
  subst hn
  exact vrget_any A c bs w hl hb hr hlen
set_option maxRecDepth 100000 in
set_option maxHeartbeats 4000000 in
theorem rvlget_any (a b : ByteArray) (k : Int) (A : Option Addr) (N c : Nat) (bs : List Nat) (w : World) (hN : bs.length = N) (hNc : N ≤ c) (hb : ∀ x ∈ bs, x < 256) (hr : Rd w A (u8s bs)) (hlen : N ≤ 140737488355328) :
    Calls Try.prog 14 #[.agg #[.string a, .int .i64 k, .string b], .slice A N c] w fun e w' => ∃ s : ByteArray, byt s = (gotV k bs).2.1 ∧
      e = .returned (.tuple #[.agg #[.int .i64 (gotV k bs).1, .string s, .int .i64 (gotV k bs).2.2], .int .i64 (gotM k bs : Int), .bool (gotB k bs)]) ∧ Below w.heap.size w w' := by
  obtain ⟨g1, g2, g3⟩ := getL_le bs hb
  have T1 := Lib.hid (fun W (h : Rd W A (u8s bs)) => rget_len A c N bs W hN hNc hb h hlen)
  have T4 := Lib.hid (fun W => rzag_any ((getL bs).1 : Int) W (by omega) (by omega))
  have hstart : Below w.heap.size w ((w.alloc (.cells #[.string a, .int .i64 k, .string b] 23)).alloc (.cells #[.int .i64 0, .string ⟨#[]⟩, .int .i64 0] 25)) := ((Below.refl _ w).alloc (Nat.le_refl _) _).alloc (by simp) _
  have A0 := Lib.hid (VlArgs.start w a b ⟨#[]⟩ k 0 0)
  by_cases h0 : (getL bs).2 = 0
  · have hg := vl_get_none (k := k) h0
    obtain ⟨e1, e2, e3⟩ := vl_got_none hg
    rw [e1, e2, e3]
    clear hg e1 e2 e3
    rw [h0] at T1
    generalize (getL bs).1 = g0 at *
    clear g1 g2 g3 h0
    go_enter Try.func14, Try.ntmps14
    go_wp2_with fail
    refine (T1.out _ (hr.below hstart)).mono ?_
    rintro e w1 ⟨rfl, hC1⟩
    have A1 := A0.out.below hC1
    obtain ⟨⟨c0, c1, c2⟩, d0, d1, d2⟩ := A1.cells
    obtain ⟨f0, f1, f2⟩ := A1.froz
    go_wp2
    refine ret_cell2 (d := .struct _) rfl (A1.put _ _ _).val rfl rfl rfl rfl rfl ?_
    exact ⟨⟨#[]⟩, rfl, rfl, (A1.put _ _ _).bel⟩
  · have dm : (((getL bs).2 : Int) == 0) = false := beq_false_of_ne (by omega)
    rcases (by omega : k = 4 ∨ k = 5 ∨ (k ≠ 4 ∧ k ≠ 5)) with rfl | rfl | ⟨h4, h5⟩
    · have hg := vl_get_4 h0
      by_cases hn : (getL bs).1 ≤ 12
      · have dn : decide ((12 : Int) < ((getL bs).1 : Int)) = false := decide_eq_false (by omega)
        have hw1 : IntKind.i64.wrap ((getL bs).1 : Int) = ((getL bs).1 : Int) := IntWalk.i64_in _ (by omega)
        have hw2 : IntKind.i64.wrap (((getL bs).2 : Int) + ((getL bs).1 : Int)) = ((getL bs).2 : Int) + ((getL bs).1 : Int) := IntWalk.i64_in _ (by omega)
        by_cases hfit : (getL bs).2 + (getL bs).1 ≤ N
        · have df : decide ((N : Int) < ((getL bs).2 : Int) + ((getL bs).1 : Int)) = false := decide_eq_false (by omega)
          rw [if_pos ⟨hn, by omega⟩] at hg
          have hfits := (vl_get_back hb hg).1
          have hbt := byt_strB (l := (bs.drop (getL bs).2).take (getL bs).1) (fun x hx => hb x (List.mem_of_mem_drop (List.mem_of_mem_take hx)))
          have T5 := Lib.hid (fun W => rvlfits_any a b (strB ((bs.drop (getL bs).2).take (getL bs).1)) 4 0 0 W)
          rw [hbt, hfits] at T5
          obtain ⟨e1, e2, e3⟩ := vl_got_some hg
          rw [e1, e2, e3]
          simp only
          clear hg e1 e2 e3
          obtain ⟨i0, hi, -, hz1, -⟩ := info_parts info_u8
          have hcut := run_cut (P := Try.prog) Try.underlying26 hi hz1 A N c (getL bs).2 ((getL bs).2 + (getL bs).1) (by omega) (by omega)
          rw [Nat.add_sub_cancel_left, show ((((getL bs).2 + (getL bs).1 : Nat) : Int)) = ((getL bs).2 : Int) + ((getL bs).1 : Int) by omega] at hcut
          have hlk : ((bs.drop (getL bs).2).take (getL bs).1).length = (getL bs).1 := by rw [List.length_take, List.length_drop]; omega
          have hcs : ∀ W : World, Rd W A (u8s bs) → (convert 26 9 (.slice (slA A c (getL bs).2) (getL bs).1 (c - (getL bs).2))).run Try.prog W = .ok (.string (strB ((bs.drop (getL bs).2).take (getL bs).1))) W := fun W h =>
            conv_str (P := Try.prog) W 26 5 9 Try.underlying26 Try.underlying5 Try.underlying9 _ _ _ _ hlk (by rw [← u8s_take, ← u8s_drop]; exact (Rd.cut h (by rw [u8s_length]; omega) _).take _)
          have Hbt := Lib.hid hbt
          clear hbt hlk hfits
          generalize strB ((bs.drop (getL bs).2).take (getL bs).1) = t at *
          generalize (bs.drop (getL bs).2).take (getL bs).1 = tl at *
          generalize zagV ((getL bs).1 : Int) = z at *
          generalize (getL bs).1 = g0 at *
          generalize (getL bs).2 = gm at *
          generalize slA A c gm = A' at *
          go_enter Try.func14, Try.ntmps14
          go_wp2_with fail
          refine (T1.out _ (hr.below hstart)).mono ?_
          rintro e w1 ⟨rfl, hC1⟩
          have A1 := A0.out.below hC1
          go_wp2_with fail
          refine (T4.out _).mono ?_
          rintro e w2 ⟨rfl, rfl⟩
          have A2 := A1.alloc (.cells #[.int .i64 z, .string ⟨#[]⟩, .int .i64 0] 25)
          have hcs2 := hcs _ (hr.below A2.bel)
          have v2 := Blk.new w1 25 [.int .i64 z, .string ⟨#[]⟩, .int .i64 0]
          obtain ⟨⟨c0, c1, c2⟩, d0, d1, d2⟩ := A2.cells
          obtain ⟨f0, f1, f2⟩ := A2.froz
          have B2 := A1.alloc (.cells #[.int .i64 0, .string t, .int .i64 0] 25)
          obtain ⟨⟨p0, p1, p2⟩, q0, q1, q2⟩ := B2.cells
          go_wp2_with fail
          refine (T5.out _).mono ?_
          rintro e w3 ⟨rfl, hC3⟩
          have A3 := B2.below hC3
          have v3 := (Blk.new w1 25 [.int .i64 0, .string t, .int .i64 0]).below (by simp) hC3
          have y0 := v3.cell (j := 0) rfl
          have y1 := v3.cell (j := 1) rfl
          have y2 := v3.cell (j := 2) rfl
          clear c0 c1 c2 d0 d1 d2 f0 f1 f2 p0 p1 p2 q0 q1 q2
          obtain ⟨⟨c0, c1, c2⟩, d0, d1, d2⟩ := A3.cells
          obtain ⟨f0, f1, f2⟩ := A3.froz
          go_wp2
          refine ret_cell2 (d := .struct _) rfl (A3.put _ _ _).val rfl rfl rfl rfl rfl ?_
          exact ⟨t, Hbt.out, rfl, (A3.put _ _ _).bel⟩
        · have df : decide ((N : Int) < ((getL bs).2 : Int) + ((getL bs).1 : Int)) = true := decide_eq_true (by omega)
          rw [if_neg (by omega)] at hg
          obtain ⟨e1, e2, e3⟩ := vl_got_none hg
          rw [e1, e2, e3]
          clear hg e1 e2 e3
          generalize zagV ((getL bs).1 : Int) = z at *
          generalize (getL bs).1 = g0 at *
          generalize (getL bs).2 = gm at *
          go_enter Try.func14, Try.ntmps14
          go_wp2_with fail
          refine (T1.out _ (hr.below hstart)).mono ?_
          rintro e w1 ⟨rfl, hC1⟩
          have A1 := A0.out.below hC1
          go_wp2_with fail
          refine (T4.out _).mono ?_
          rintro e w2 ⟨rfl, rfl⟩
          have A2 := A1.alloc (.cells #[.int .i64 z, .string ⟨#[]⟩, .int .i64 0] 25)
          obtain ⟨⟨c0, c1, c2⟩, d0, d1, d2⟩ := A2.cells
          obtain ⟨f0, f1, f2⟩ := A2.froz
          go_wp2
          refine ret_cell2 (d := .struct _) rfl (A2.put _ _ _).val rfl rfl rfl rfl rfl ?_
          exact ⟨⟨#[]⟩, rfl, rfl, (A2.put _ _ _).bel⟩
      · have dn : decide ((12 : Int) < ((getL bs).1 : Int)) = true := decide_eq_true (by omega)
        rw [if_neg (by omega)] at hg
        obtain ⟨e1, e2, e3⟩ := vl_got_none hg
        rw [e1, e2, e3]
        clear hg e1 e2 e3
        generalize zagV ((getL bs).1 : Int) = z at *
        generalize (getL bs).1 = g0 at *
        generalize (getL bs).2 = gm at *
        go_enter Try.func14, Try.ntmps14
        go_wp2_with fail
        refine (T1.out _ (hr.below hstart)).mono ?_
        rintro e w1 ⟨rfl, hC1⟩
        have A1 := A0.out.below hC1
        go_wp2_with fail
        refine (T4.out _).mono ?_
        rintro e w2 ⟨rfl, rfl⟩
        have A2 := A1.alloc (.cells #[.int .i64 z, .string ⟨#[]⟩, .int .i64 0] 25)
        obtain ⟨⟨c0, c1, c2⟩, d0, d1, d2⟩ := A2.cells
        obtain ⟨f0, f1, f2⟩ := A2.froz
        go_wp2
        refine ret_cell2 (d := .struct _) rfl (A2.put _ _ _).val rfl rfl rfl rfl rfl ?_
        exact ⟨⟨#[]⟩, rfl, rfl, (A2.put _ _ _).bel⟩
    · have hg := vl_get_5 h0
      by_cases hn : (getL bs).1 ≤ 1073741825
      · have dn : decide ((1073741825 : Int) < ((getL bs).1 : Int)) = false := decide_eq_false (by omega)
        have hw1 : IntKind.i64.wrap ((getL bs).1 : Int) = ((getL bs).1 : Int) := IntWalk.i64_in _ (by omega)
        have hw2 : IntKind.i64.wrap (((getL bs).1 : Int) - 1) = ((getL bs).1 : Int) - 1 := IntWalk.i64_in _ (by omega)
        rw [if_pos hn] at hg
        have hfits := (vl_get_back hb hg).1
        have T5 := Lib.hid (fun W => rvlfits_any a b ⟨#[]⟩ 5 0 (((getL bs).1 : Int) - 1) W)
        rw [byt_nil, hfits] at T5
        obtain ⟨e1, e2, e3⟩ := vl_got_some hg
        rw [e1, e2, e3]
        simp only
        clear hg e1 e2 e3
        clear hfits
        generalize zagV ((getL bs).1 : Int) = z at *
        generalize (getL bs).1 = g0 at *
        generalize (getL bs).2 = gm at *
        go_enter Try.func14, Try.ntmps14
        go_wp2_with fail
        refine (T1.out _ (hr.below hstart)).mono ?_
        rintro e w1 ⟨rfl, hC1⟩
        have A1 := A0.out.below hC1
        go_wp2_with fail
        refine (T4.out _).mono ?_
        rintro e w2 ⟨rfl, rfl⟩
        have A2 := A1.alloc (.cells #[.int .i64 z, .string ⟨#[]⟩, .int .i64 0] 25)
        have v2 := Blk.new w1 25 [.int .i64 z, .string ⟨#[]⟩, .int .i64 0]
        obtain ⟨⟨c0, c1, c2⟩, d0, d1, d2⟩ := A2.cells
        obtain ⟨f0, f1, f2⟩ := A2.froz
        have B2 := A1.alloc (.cells #[.int .i64 0, .string ⟨#[]⟩, .int .i64 ((g0 : Int) - 1)] 25)
        obtain ⟨⟨p0, p1, p2⟩, q0, q1, q2⟩ := B2.cells
        go_wp2_with fail
        refine (T5.out _).mono ?_
        rintro e w3 ⟨rfl, hC3⟩
        have A3 := B2.below hC3
        have v3 := (Blk.new w1 25 [.int .i64 0, .string ⟨#[]⟩, .int .i64 ((g0 : Int) - 1)]).below (by simp) hC3
        have y0 := v3.cell (j := 0) rfl
        have y1 := v3.cell (j := 1) rfl
        have y2 := v3.cell (j := 2) rfl
        clear c0 c1 c2 d0 d1 d2 f0 f1 f2 p0 p1 p2 q0 q1 q2
        obtain ⟨⟨c0, c1, c2⟩, d0, d1, d2⟩ := A3.cells
        obtain ⟨f0, f1, f2⟩ := A3.froz
        go_wp2
        refine ret_cell2 (d := .struct _) rfl (A3.put _ _ _).val rfl rfl rfl rfl rfl ?_
        exact ⟨⟨#[]⟩, rfl, rfl, (A3.put _ _ _).bel⟩
      · have dn : decide ((1073741825 : Int) < ((getL bs).1 : Int)) = true := decide_eq_true (by omega)
        rw [if_neg hn] at hg
        obtain ⟨e1, e2, e3⟩ := vl_got_none hg
        rw [e1, e2, e3]
        clear hg e1 e2 e3
        generalize zagV ((getL bs).1 : Int) = z at *
        generalize (getL bs).1 = g0 at *
        generalize (getL bs).2 = gm at *
        go_enter Try.func14, Try.ntmps14
        go_wp2_with fail
        refine (T1.out _ (hr.below hstart)).mono ?_
        rintro e w1 ⟨rfl, hC1⟩
        have A1 := A0.out.below hC1
        go_wp2_with fail
        refine (T4.out _).mono ?_
        rintro e w2 ⟨rfl, rfl⟩
        have A2 := A1.alloc (.cells #[.int .i64 z, .string ⟨#[]⟩, .int .i64 0] 25)
        obtain ⟨⟨c0, c1, c2⟩, d0, d1, d2⟩ := A2.cells
        obtain ⟨f0, f1, f2⟩ := A2.froz
        go_wp2
        refine ret_cell2 (d := .struct _) rfl (A2.put _ _ _).val rfl rfl rfl rfl rfl ?_
        exact ⟨⟨#[]⟩, rfl, rfl, (A2.put _ _ _).bel⟩
    · have e4 : (k == 4) = false := beq_false_of_ne h4
      have e5 : (k == 5) = false := beq_false_of_ne h5
      have hg := vl_get_num h4 h5 h0
      have T5 := Lib.hid (fun W => rvlfits_any a b ⟨#[]⟩ k (zagV ((getL bs).1 : Int)) 0 W)
      rw [byt_nil] at T5
      cases hf : fitsV k (zagV ((getL bs).1 : Int), [], 0)
      · rw [hf] at T5 hg
        rw [if_neg (by decide)] at hg
        obtain ⟨e1, e2, e3⟩ := vl_got_none hg
        rw [e1, e2, e3]
        clear hg e1 e2 e3
        clear hf
        generalize zagV ((getL bs).1 : Int) = z at *
        generalize (getL bs).1 = g0 at *
        generalize (getL bs).2 = gm at *
        go_enter Try.func14, Try.ntmps14
        go_wp2_with fail
        refine (T1.out _ (hr.below hstart)).mono ?_
        rintro e w1 ⟨rfl, hC1⟩
        have A1 := A0.out.below hC1
        go_wp2_with fail
        refine (T4.out _).mono ?_
        rintro e w2 ⟨rfl, rfl⟩
        have A2 := A1.alloc (.cells #[.int .i64 z, .string ⟨#[]⟩, .int .i64 0] 25)
        obtain ⟨⟨c0, c1, c2⟩, d0, d1, d2⟩ := A2.cells
        obtain ⟨f0, f1, f2⟩ := A2.froz
        go_wp2_with fail
        refine (T5.out _).mono ?_
        rintro e w3 ⟨rfl, hC3⟩
        have A3 := A2.below hC3
        clear c0 c1 c2 d0 d1 d2 f0 f1 f2
        obtain ⟨⟨c0, c1, c2⟩, d0, d1, d2⟩ := A3.cells
        obtain ⟨f0, f1, f2⟩ := A3.froz
        go_wp2
        refine ret_cell2 (d := .struct _) rfl (A3.put _ _ _).val rfl rfl rfl rfl rfl ?_
        exact ⟨⟨#[]⟩, rfl, rfl, (A3.put _ _ _).bel⟩
      · rw [hf] at T5 hg
        rw [if_pos rfl] at hg
        obtain ⟨e1, e2, e3⟩ := vl_got_some hg
        rw [e1, e2, e3]
        simp only
        clear hg e1 e2 e3
        clear hf
        generalize zagV ((getL bs).1 : Int) = z at *
        generalize (getL bs).1 = g0 at *
        generalize (getL bs).2 = gm at *
        go_enter Try.func14, Try.ntmps14
        go_wp2_with fail
        refine (T1.out _ (hr.below hstart)).mono ?_
        rintro e w1 ⟨rfl, hC1⟩
        have A1 := A0.out.below hC1
        go_wp2_with fail
        refine (T4.out _).mono ?_
        rintro e w2 ⟨rfl, rfl⟩
        have A2 := A1.alloc (.cells #[.int .i64 z, .string ⟨#[]⟩, .int .i64 0] 25)
        have v2 := Blk.new w1 25 [.int .i64 z, .string ⟨#[]⟩, .int .i64 0]
        obtain ⟨⟨c0, c1, c2⟩, d0, d1, d2⟩ := A2.cells
        obtain ⟨f0, f1, f2⟩ := A2.froz
        go_wp2_with fail
        refine (T5.out _).mono ?_
        rintro e w3 ⟨rfl, hC3⟩
        have A3 := A2.below hC3
        have v3 := v2.below v2.lt hC3
        have y0 := v3.cell (j := 0) rfl
        have y1 := v3.cell (j := 1) rfl
        have y2 := v3.cell (j := 2) rfl
        clear c0 c1 c2 d0 d1 d2 f0 f1 f2
        obtain ⟨⟨c0, c1, c2⟩, d0, d1, d2⟩ := A3.cells
        obtain ⟨f0, f1, f2⟩ := A3.froz
        go_wp2
        refine ret_cell2 (d := .struct _) rfl (A3.put _ _ _).val rfl rfl rfl rfl rfl ?_
        exact ⟨⟨#[]⟩, rfl, rfl, (A3.put _ _ _).bel⟩
end Go.Proofs.Ytpllbjkjlaacjaa
