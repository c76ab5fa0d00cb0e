/- ValueTells' walk. -/
import Derived.Test.YtpllbjkjlaacjaaVlArg
import Derived.Test.YtpllbjkjlaacjaaVlRefPut
import Derived.Test.YtpllbjkjlaacjaaVlRefGet
import Derived.Test.YtpllbjkjlaacjaaSched
namespace Go.Proofs.Ytpllbjkjlaacjaa
open Go.RowKit

/-- The document's own Put, its bytes as a slice that reads. -/
theorem rvlput_sl (a b s : ByteArray) (k n r : Int) (w : World) (h0 : -9223372036854775808 ≤ n) (h1 : n ≤ 9223372036854775807) :
    Calls Try.prog 12 #[.agg #[.string a, .int .i64 k, .string b], .agg #[.int .i64 n, .string s, .int .i64 r]] w fun e w' =>
      ∃ A c, e = .returned (.tuple #[.slice A (putVF k (n, byt s, r)).length c, .bool (fitsV k (n, byt s, r))]) ∧ (putVF k (n, byt s, r)).length ≤ c ∧ Rd w' A (u8s (putVF k (n, byt s, r))) ∧ Below w.heap.size w w' := by
  refine (rvlput_any a b s k n r w h0 h1).mono fun e w' ⟨v, he, hown, hB⟩ => ?_
  obtain ⟨A, c, hv, hc, hr, _⟩ := own_slice hown
  subst hv
  exact ⟨A, c, he, hc, hr, hB⟩

set_option maxRecDepth 100000 in
set_option maxHeartbeats 8000000 in
theorem valueTells_walk (w : World) (fs : Array Value) (f : ByteArray × Int × ByteArray) (hf : rVlFld (All w) w fs.toList f) (cs : Array Value) (x : Int × ByteArray × Int) (h : rVl (All w) w cs.toList x) (A : Option Addr) (c : Nat) (bs : List Nat) (hl : bs.length ≤ c) (_hm : c ≤ maxLen) (hb : ∀ x ∈ bs, x < 256) (hr : Rd w A (u8s bs)) :
    Calls Try.prog 3 #[.agg fs, .agg cs, .slice A bs.length c] w fun e w' => e = .returned (.bool true) ∧ Below w.heap.size w w' := by
  obtain ⟨rfl, -, -, hk⟩ := vl_fld_arg hf
  obtain ⟨rfl, hs, h0, h1⟩ := vl_val_arg h
  obtain ⟨a, k, b⟩ := f
  obtain ⟨n, s, r⟩ := x
  simp only at hs h0 h1 hk ⊢
  clear h hf hk hs
  have HA := Lib.hid (VlArgs.start w a b s k n r)
  by_cases hin : bs.length ≤ 300 ∧ s.size ≤ 300
  · obtain ⟨i1, i2⟩ := hin
    have d1 : decide ((300 : Int) < (bs.length : Int)) = false := decide_eq_false (by omega)
    have d2 : decide ((300 : Int) < (s.size : Int)) = false := decide_eq_false (by omega)
    have T1 := Lib.hid (fun W => vlput_sl a b s k n r W h0 h1)
    have T2 := Lib.hid (fun W => rvlput_sl a b s k n r W h0 h1)
    have T3 := Lib.hid (fun W (h : Rd W A (u8s bs)) => vlget_any a b k A bs.length c bs W rfl hl hb h (by omega))
    have T4 := Lib.hid (fun W (h : Rd W A (u8s bs)) => rvlget_any a b k A bs.length c bs W rfl hl hb h (by omega))
    have T5 := Lib.hid (fun W => rvlfits_any a b s k n r W)
    have T6 := Lib.hid (fun W => vlfits_any a b s k n r W)
    have T7 := Lib.hid (fun W => vlzero_any a b k W)
    have T8 := Lib.hid (fun W => rvlzero_any a b k W)
    generalize (zeroV k).2.2 = z at *
    generalize gotV k bs = y at *
    generalize gotM k bs = ym at *
    generalize gotB k bs = yb at *
    generalize putVF k (n, byt s, r) = L at *
    generalize fitsV k (n, byt s, r) = F at *
    go_enter Try.func3, Try.ntmps3
    go_wp2_with fail
    refine (vlawake_any _).mono ?_
    rintro e w1 ⟨rfl, hC1⟩
    have A1 := HA.out.below hC1
    obtain ⟨⟨x0, x1, x2⟩, y0, y1, y2⟩ := A1.cells
    go_wp2_with fail
    refine (T1.out _).mono ?_
    rintro e w2 ⟨A2, c2, rfl, hc2, hr2, hC2⟩
    have A2' := A1.below hC2
    clear x0 x1 x2 y0 y1 y2 hC1 A1 hC2
    obtain ⟨⟨x0, x1, x2⟩, y0, y1, y2⟩ := A2'.cells
    go_wp2_with fail
    refine (T2.out _).mono ?_
    rintro e w3 ⟨A3, c3, rfl, hc3, hr3, hC3⟩
    have A3' := A2'.below hC3
    have hr23 := hr2.below hC3
    clear x0 x1 x2 y0 y1 y2 A2' hC3 hr2
    obtain ⟨⟨x0, x1, x2⟩, y0, y1, y2⟩ := A3'.cells
    go_wp2_with fail
    refine (T3.out _ (hr.below A3'.bel)).mono ?_
    rintro e w4 ⟨tx, htx, rfl, hC4⟩
    have hA4 := (Below.refl w4.heap.size w4).alloc (Nat.le_refl _) (.cells #[.int .i64 y.1, .string tx, .int .i64 y.2.2] 25)
    have hC4' := hC4.trans (hA4.mono hC4.size)
    have A4 := A3'.below hC4'
    have vx4 := Blk.new w4 25 [.int .i64 y.1, .string tx, .int .i64 y.2.2]
    have hr24 := hr23.below hC4'
    have hr34 := hr3.below hC4'
    clear x0 x1 x2 y0 y1 y2 A3' hC4 hr23 hr3 hC4' hA4
    obtain ⟨⟨x0, x1, x2⟩, y0, y1, y2⟩ := A4.cells
    go_wp2_with fail
    refine (T4.out _ (hr.below A4.bel)).mono ?_
    rintro e w5 ⟨ty, hty, rfl, hC5⟩
    obtain rfl : tx = ty := byt_inj (htx.trans hty.symm)
    have hA5 := (Below.refl w5.heap.size w5).alloc (Nat.le_refl _) (.cells #[.int .i64 y.1, .string tx, .int .i64 y.2.2] 25)
    have hC5' := hC5.trans (hA5.mono hC5.size)
    have A5 := A4.below hC5'
    have vx5 := vx4.below vx4.lt hC5'
    have vy5 := Blk.new w5 25 [.int .i64 y.1, .string tx, .int .i64 y.2.2]
    have hr25 := hr24.below hC5'
    have hr35 := hr34.below hC5'
    clear x0 x1 x2 y0 y1 y2 A4 vx4 hC5 hr24 hr34 hC5' hA5
    obtain ⟨⟨x0, x1, x2⟩, y0, y1, y2⟩ := A5.cells
    go_wp2_with fail
    refine (T5.out _).mono ?_
    rintro e w6 ⟨rfl, hC6⟩
    have A6 := A5.below hC6
    have vx6 := vx5.below vx5.lt hC6
    have vy6 := vy5.below vy5.lt hC6
    have hr26 := hr25.below hC6
    have hr36 := hr35.below hC6
    clear x0 x1 x2 y0 y1 y2 A5 vx5 vy5 hC6 hr25 hr35
    have HSF : Hid (∀ W, Below w6.heap.size w6 W → ((W.cell? ⟨w.heap.size, 0, none⟩ = some (.string a) ∧ W.cell? ⟨w.heap.size, 1, none⟩ = some (.int .i64 k) ∧ W.cell? ⟨w.heap.size, 2, none⟩ = some (.string b)) ∧
        W.cell? ⟨w.heap.size + 1, 0, none⟩ = some (.int .i64 n) ∧ W.cell? ⟨w.heap.size + 1, 1, none⟩ = some (.string s) ∧ W.cell? ⟨w.heap.size + 1, 2, none⟩ = some (.int .i64 r)) ∧
        (W.cell? ⟨w4.heap.size, 0, none⟩ = some (.int .i64 y.1) ∧ W.cell? ⟨w4.heap.size, 1, none⟩ = some (.string tx) ∧ W.cell? ⟨w4.heap.size, 2, none⟩ = some (.int .i64 y.2.2)) ∧
        (W.cell? ⟨w5.heap.size, 0, none⟩ = some (.int .i64 y.1) ∧ W.cell? ⟨w5.heap.size, 1, none⟩ = some (.string tx) ∧ W.cell? ⟨w5.heap.size, 2, none⟩ = some (.int .i64 y.2.2)) ∧
        (convert 26 9 (.slice A2 L.length c2)).run Try.prog W = .ok (.string (strB L)) W ∧ (convert 26 9 (.slice A3 L.length c3)).run Try.prog W = .ok (.string (strB L)) W) := Lib.hid fun W hW =>
      ⟨(A6.below hW).cells, ⟨(vx6.below vx6.lt hW).cell rfl, (vx6.below vx6.lt hW).cell rfl, (vx6.below vx6.lt hW).cell rfl⟩, ⟨(vy6.below vy6.lt hW).cell rfl, (vy6.below vy6.lt hW).cell rfl, (vy6.below vy6.lt hW).cell rfl⟩,
        vl_conv W A2 L L.length c2 rfl (hr26.below hW), vl_conv W A3 L L.length c3 rfl (hr36.below hW)⟩
    have HB := Lib.hid A6.bel
    have hq1 : ∀ W, (binOp .eql 25 (.agg #[.int .i64 y.1, .string tx, .int .i64 y.2.2]) (.agg #[.int .i64 y.1, .string tx, .int .i64 y.2.2])).run Try.prog W = .ok (.bool true) W := fun W => by rw [vl_eql]; simp
    have hq2 : ∀ W, (binOp .eql 25 (.agg #[.int .i64 0, .string ⟨#[]⟩, .int .i64 z]) (.agg #[.int .i64 0, .string ⟨#[]⟩, .int .i64 z])).run Try.prog W = .ok (.bool true) W := fun W => by rw [vl_eql]; simp
    have hgd := sval_guard
    clear A6 vx6 vy6 hr26 hr36
    generalize strB L = st at *
    have q1 : (F == F) = true := by simp
    have q2 : (yb == yb) = true := by simp
    have q3 : ((ym : Int) == (ym : Int)) = true := by simp
    have q4 : (st.toList == st.toList) = true := by simp
    go_wp2_with fail
    refine sch_start [(0, true), (1, true), (2, true), (3, true), (4, true), (5, true), (6, true), (7, true), (8, true), (9, true), (10, true), (11, true), (12, true), (13, true), (14, true), (15, true), (16, true), (17, true), (18, true), (19, true), (20, true), (21, true), (22, true), (23, true), (24, true), (25, true), (26, true), (27, true), (29, true), (28, false), (30, true), (31, true), (32, true), (33, true), (35, true), (34, false), (36, false), (37, true), (38, true), (39, true)]
      (fun W => Below w6.heap.size w6 W) (by kernel_rfl) rfl (by kernel_rfl) (fun _ _ _ _ _ h => h) (Below.refl _ w6).drew (fun hH => ?_)
    repeat (first | (refine sch_yes (v := ?_) rfl rfl ?_ hH ?_; rotate_left; (focus ((intro W hW; obtain ⟨⟨⟨x0, x1, x2⟩, y0, y1, y2⟩, ⟨t0, t1, t2⟩, ⟨z0, z1, z2⟩, cp, cq⟩ := HSF.out W hW; go_simp) <;> with_reducible rfl)); simp only [Act.put, List.setIfInBounds_toArray, List.set_cons_zero, List.set_cons_succ]) | (refine sch_no rfl rfl hH ?_; simp only [Act.put, List.setIfInBounds_toArray, List.set_cons_zero, List.set_cons_succ]))
    refine sch_call rfl rfl (fun K hK => ?_)
    go_wp2_with (go_at_call 16; refine (T6.out _).mono ?_; rintro e w7 ⟨rfl, hC7⟩)
    have hD7 := hH.trans (hC7.mono hH.size)
    refine hK.out _ _ hD7 ?_
    clear hK hC7 hH
    have hH := hD7
    repeat (first | (refine sch_yes (v := ?_) rfl rfl ?_ hH ?_; rotate_left; (focus ((intro W hW; obtain ⟨⟨⟨x0, x1, x2⟩, y0, y1, y2⟩, ⟨t0, t1, t2⟩, ⟨z0, z1, z2⟩, cp, cq⟩ := HSF.out W hW; go_simp) <;> with_reducible rfl)); simp only [Act.put, List.setIfInBounds_toArray, List.set_cons_zero, List.set_cons_succ]) | (refine sch_no rfl rfl hH ?_; simp only [Act.put, List.setIfInBounds_toArray, List.set_cons_zero, List.set_cons_succ]))
    refine sch_call rfl rfl (fun K hK => ?_)
    go_wp2_with (go_at_call 17; refine (T7.out _).mono ?_; rintro e w8 ⟨rfl, hC8⟩)
    have hD8 := hH.trans (hC8.mono hH.size)
    refine hK.out _ _ hD8 ?_
    clear hK hC8 hH hD7
    have hH := hD8
    repeat (first | (refine sch_yes (v := ?_) rfl rfl ?_ hH ?_; rotate_left; (focus ((intro W hW; obtain ⟨⟨⟨x0, x1, x2⟩, y0, y1, y2⟩, ⟨t0, t1, t2⟩, ⟨z0, z1, z2⟩, cp, cq⟩ := HSF.out W hW; go_simp) <;> with_reducible rfl)); simp only [Act.put, List.setIfInBounds_toArray, List.set_cons_zero, List.set_cons_succ]) | (refine sch_no rfl rfl hH ?_; simp only [Act.put, List.setIfInBounds_toArray, List.set_cons_zero, List.set_cons_succ]))
    refine sch_call rfl rfl (fun K hK => ?_)
    go_wp2_with (go_at_call 18; refine (T8.out _).mono ?_; rintro e w9 ⟨rfl, hC9⟩)
    have hD9 := hH.trans (hC9.mono hH.size)
    refine hK.out _ _ hD9 ?_
    clear hK hC9 hH hD8
    have hH := hD9
    repeat (first | (refine sch_yes (v := ?_) rfl rfl ?_ hH ?_; rotate_left; (focus ((intro W hW; obtain ⟨⟨⟨x0, x1, x2⟩, y0, y1, y2⟩, ⟨t0, t1, t2⟩, ⟨z0, z1, z2⟩, cp, cq⟩ := HSF.out W hW; go_simp) <;> with_reducible rfl)); simp only [Act.put, List.setIfInBounds_toArray, List.set_cons_zero, List.set_cons_succ]) | (refine sch_no rfl rfl hH ?_; simp only [Act.put, List.setIfInBounds_toArray, List.set_cons_zero, List.set_cons_succ]))
    refine sch_done ?_
    go_wp2
    go_ret
    exact ⟨rfl, HB.out.trans (hH.mono HB.out.size)⟩
  · by_cases i1 : bs.length ≤ 300
    · have d1 : decide ((300 : Int) < (bs.length : Int)) = false := decide_eq_false (by omega)
      have d2 : decide ((300 : Int) < (s.size : Int)) = true := decide_eq_true (by omega)
      go_enter Try.func3, Try.ntmps3
      go_wp2_with fail
      refine (vlawake_any _).mono ?_
      rintro e w1 ⟨rfl, hC1⟩
      have A1 := HA.out.below hC1
      obtain ⟨⟨x0, x1, x2⟩, y0, y1, y2⟩ := A1.cells
      go_wp2
      go_ret
      exact ⟨rfl, A1.bel⟩
    · have d1 : decide ((300 : Int) < (bs.length : Int)) = true := decide_eq_true (by omega)
      go_enter Try.func3, Try.ntmps3
      go_wp2_with fail
      refine (vlawake_any _).mono ?_
      rintro e w1 ⟨rfl, hC1⟩
      have A1 := HA.out.below hC1
      go_wp2
      go_ret
      exact ⟨rfl, A1.bel⟩
end Go.Proofs.Ytpllbjkjlaacjaa
