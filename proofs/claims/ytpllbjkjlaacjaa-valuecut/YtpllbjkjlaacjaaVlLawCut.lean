/- ValueCut's walk. -/
import Derived.Test.YtpllbjkjlaacjaaVlArg
import Derived.Test.YtpllbjkjlaacjaaFork
namespace Go.Proofs.Ytpllbjkjlaacjaa
open Go.RowKit

theorem vl_got_cut {k : Int} {v : Vl} (hv : OkV v) (hf : fitsV k v = true) {j : Nat} (hj : j < (putVF k v).length) : gotM k ((putVF k v).take j) = 0 ∧ gotB k ((putVF k v).take j) = false := by
  rw [putVF_yes hf] at hj ⊢
  exact (vl_got_none (vl_get_cut hv hf hj)).2

set_option maxRecDepth 100000 in
set_option maxHeartbeats 4000000 in
theorem valueCut_walk (w : World) (fs : Array Value) (f : ByteArray × Int × ByteArray) (hf : rVlFld (All w) w fs.toList f) (cs : Array Value) (x : Int × ByteArray × Int) (h : rVl (All w) w cs.toList x) (j : Int) (j0 : -9223372036854775808 ≤ j) (j1 : j ≤ 9223372036854775807) :
    Calls Try.prog 7 #[.agg fs, .agg cs, .int .i64 j] w fun e w' => e = .returned (.bool true) ∧ Below w.heap.size w w' := by
  obtain ⟨rfl, -, -, hk⟩ := vl_fld_arg hf
  obtain ⟨rfl, hs, h0, h1⟩ := vl_val_arg h
  obtain ⟨a, k, b⟩ := f
  obtain ⟨n, s, r⟩ := x
  simp only at hs h0 h1 hk ⊢
  simp only [maxLen] at hs
  clear h hf hk
  have HA := Lib.hid (VlArgs.start w a b s k n r)
  have T1 := Lib.hid (fun W => vlput_sl a b s k n r W h0 h1)
  have hok := vl_ok (r := r) (s := s) h0 h1
  have hlen := putVF_len (k := k) hok
  have hby := putVF_byte (k := k) hok
  have Hcut := Lib.hid (fun (hf : fitsV k (n, byt s, r) = true) (jn : Nat) (hj : jn < (putVF k (n, byt s, r)).length) => vl_got_cut hok hf hj)
  generalize hF : fitsV k (n, byt s, r) = F at *
  by_cases i0 : s.size ≤ 300
  · have d0 : decide ((300 : Int) < (s.size : Int)) = false := decide_eq_false (by omega)
    cases F
    · clear Hcut hF
      generalize putVF k (n, byt s, r) = L at *
      go_enter Try.func7, Try.ntmps7
      go_wp2_with fail
      refine (vlawake_any _).mono ?_
      rintro e w1 ⟨rfl, hC1⟩
      have A1 := HA.out.below hC1
      obtain ⟨⟨x0, x1, x2⟩, y0, y1, y2⟩ := A1.cells
      go_wp2_with fail
      refine (T1.out _).mono ?_
      rintro e w2 ⟨A2, c2, rfl, hc2, hr2, hC2⟩
      have A2' := A1.below hC2
      clear x0 x1 x2 y0 y1 y2
      obtain ⟨⟨x0, x1, x2⟩, y0, y1, y2⟩ := A2'.cells
      go_wp2
      go_ret
      exact ⟨rfl, A2'.bel⟩
    · by_cases i1 : 0 ≤ j
      · have d1 : decide (j < 0) = false := decide_eq_false (by omega)
        obtain ⟨jn, rfl⟩ := Int.eq_ofNat_of_zero_le i1
        by_cases i2 : jn < (putVF k (n, byt s, r)).length
        · have d2 : decide (((putVF k (n, byt s, r)).length : Int) ≤ (jn : Int)) = false := decide_eq_false (by omega)
          obtain ⟨g2, g3⟩ := Hcut.out rfl jn i2
          obtain ⟨q0, hi, -, -, -⟩ := info_parts info_u8
          have hsl : ∀ (A : Option Addr) (c : Nat), (putVF k (n, byt s, r)).length ≤ c → ∀ W : World, (Instr.slice 26 (.slice A (putVF k (n, byt s, r)).length c) none (some (.int .i64 (jn : Int))) none).run Try.prog W = .ok (.slice (slA A c 0) jn c) W := fun A c hc W =>
            run_cut0 (P := Try.prog) Try.underlying26 hi A _ c jn (by omega) W
          have T2 := Lib.hid (fun W A c (hc : (putVF k (n, byt s, r)).length ≤ c) (hr : Rd W A (u8s (putVF k (n, byt s, r)))) => vlget_any a b k (slA A c 0) jn c ((putVF k (n, byt s, r)).take jn) W (by rw [List.length_take]; omega) (by omega) (fun x hx => hby x (List.mem_of_mem_take hx)) (by
            rw [← u8s_take]
            have := Rd.cut hr (c := c) (by rw [u8s_length]; exact hc) 0
            rw [List.drop_zero] at this
            exact this.take jn) (by omega))
          rw [g2, g3] at T2
          generalize gotV k ((putVF k (n, byt s, r)).take jn) = gv at *
          generalize putVF k (n, byt s, r) = L at *
          clear Hcut hF g2 g3 hby
          go_enter Try.func7, Try.ntmps7
          go_wp2_with fail
          refine (vlawake_any _).mono ?_
          rintro e w1 ⟨rfl, hC1⟩
          have A1 := HA.out.below hC1
          obtain ⟨⟨x0, x1, x2⟩, y0, y1, y2⟩ := A1.cells
          go_wp2_with fail
          refine (T1.out _).mono ?_
          rintro e w2 ⟨A2, c2, rfl, hc2, hr2, hC2⟩
          have A2' := A1.below hC2
          clear x0 x1 x2 y0 y1 y2
          obtain ⟨⟨x0, x1, x2⟩, y0, y1, y2⟩ := A2'.cells
          have hsl2 := hsl A2 c2 hc2
          have T3 := Lib.hid (fun W => T2.out W A2 c2 hc2)
          clear hsl T2
          generalize slA A2 c2 0 = A3 at *
          go_wp2_with fail
          clear x0 x1 x2 y0 y1 y2
          have HS := Lib.hid (fun (W : World) (hW : Below w2.heap.size w2 W) => (A2'.below hW).cells.1)
          have hr2d : ∀ W, Below w2.heap.size w2 W → Rd W A2 (u8s L) := fun W hW => hr2.below hW
          have HR := Lib.hid hr2d
          have HB := Lib.hid A2'.bel
          clear hr2d hr2 A1 hC1 hC2 A2'
          refine fr_start (fun W => W.cell? ⟨w.heap.size, 0, none⟩ = some (.string a) ∧ W.cell? ⟨w.heap.size, 1, none⟩ = some (.int .i64 k) ∧ W.cell? ⟨w.heap.size, 2, none⟩ = some (.string b)) 13 (by kernel_rfl) rfl (fun _ _ _ _ _ h => h) (HS.out _ (Below.refl _ w2).drew) (fun hH => ?_)
          have hD2 := (Below.refl w2.heap.size w2).drew
          generalize w2.drew = wd at *
          have hwd := hD2.size
          (refine fr_yes 0 (v := ?_) rfl (by kernel_rfl) rfl ?_ hH ?_; rotate_left; (focus ((rintro W ⟨hW1, hW2, hW3⟩; go_simp) <;> with_reducible rfl)); simp only [Act.put, List.setIfInBounds_toArray, List.set_cons_zero, List.set_cons_succ]); (refine fr_yes 1 (v := ?_) rfl (by kernel_rfl) rfl ?_ hH ?_; rotate_left; (focus ((rintro W ⟨hW1, hW2, hW3⟩; go_simp) <;> with_reducible rfl)); simp only [Act.put, List.setIfInBounds_toArray, List.set_cons_zero, List.set_cons_succ]); (refine fr_yes 2 (v := ?_) rfl (by kernel_rfl) rfl ?_ hH ?_; rotate_left; (focus ((rintro W ⟨hW1, hW2, hW3⟩; go_simp) <;> with_reducible rfl)); simp only [Act.put, List.setIfInBounds_toArray, List.set_cons_zero, List.set_cons_succ]); (refine fr_yes 3 (v := ?_) rfl (by kernel_rfl) rfl ?_ hH ?_; rotate_left; (focus ((rintro W ⟨hW1, hW2, hW3⟩; go_simp) <;> with_reducible rfl)); simp only [Act.put, List.setIfInBounds_toArray, List.set_cons_zero, List.set_cons_succ])
          refine fr_op [4, 9] (by kernel_rfl) (by simp) ?_; intro jj hjj; simp only [List.mem_cons, List.not_mem_nil, or_false] at hjj; rcases hjj with rfl | rfl
          · refine ⟨_, rfl, rfl, fun K hK => ?_⟩
            go_wp2_with (go_at_call 13; refine (T3.out _ (HR.out _ hD2)).mono ?_; rintro e w3 ⟨t3, ht3, rfl, hC3⟩)
            have hD3 := hD2.trans (hC3.mono hD2.size)
            refine hK.out _ _ (HS.out _ hD3) ?_
            clear hK hH hD2 hC3
            have hH := HS.out _ hD3
            (refine fr_yes 5 (v := ?_) rfl (by kernel_rfl) rfl ?_ hH ?_; rotate_left; (focus ((rintro W ⟨hW1, hW2, hW3⟩; go_simp) <;> with_reducible rfl)); simp only [Act.put, List.setIfInBounds_toArray, List.set_cons_zero, List.set_cons_succ]); (refine fr_yes 6 (v := ?_) rfl (by kernel_rfl) rfl ?_ hH ?_; rotate_left; (focus ((rintro W ⟨hW1, hW2, hW3⟩; go_simp) <;> with_reducible rfl)); simp only [Act.put, List.setIfInBounds_toArray, List.set_cons_zero, List.set_cons_succ]); (refine fr_yes 7 (v := ?_) rfl (by kernel_rfl) rfl ?_ hH ?_; rotate_left; (focus ((rintro W ⟨hW1, hW2, hW3⟩; go_simp) <;> with_reducible rfl)); simp only [Act.put, List.setIfInBounds_toArray, List.set_cons_zero, List.set_cons_succ]); (refine fr_yes 8 (v := ?_) rfl (by kernel_rfl) rfl ?_ hH ?_; rotate_left; (focus ((rintro W ⟨hW1, hW2, hW3⟩; go_simp) <;> with_reducible rfl)); simp only [Act.put, List.setIfInBounds_toArray, List.set_cons_zero, List.set_cons_succ])
            refine fr_op [9] (by kernel_rfl) (by simp) ?_; intro jj hjj; simp only [List.mem_cons, List.not_mem_nil, or_false] at hjj; subst hjj; refine ⟨_, rfl, rfl, fun K hK => ?_⟩
            go_wp2
            have hD4 := hD3.alloc hD3.size (.cells #[.int .i64 0, .string ⟨#[]⟩, .int .i64 0] 25)
            refine hK.out _ _ (HS.out _ hD4) ?_
            clear hK hH
            refine fr_op [10] (by kernel_rfl) (by simp) ?_; intro jj hjj; simp only [List.mem_cons, List.not_mem_nil, or_false] at hjj; subst hjj; refine ⟨_, rfl, rfl, fun K hK => ?_⟩
            go_wp2
            have hD5 := hD3.alloc hD3.size (.cells #[.int .i64 gv.1, .string t3, .int .i64 gv.2.2] 25)
            refine hK.out _ _ (HS.out _ hD5) ?_
            clear hK
            have hH := HS.out _ hD5
            (refine fr_yes 11 (v := ?_) rfl (by kernel_rfl) rfl ?_ hH ?_; rotate_left; (focus ((rintro W ⟨hW1, hW2, hW3⟩; go_simp) <;> with_reducible rfl)); simp only [Act.put, List.setIfInBounds_toArray, List.set_cons_zero, List.set_cons_succ]); (refine fr_yes 12 (v := ?_) rfl (by kernel_rfl) rfl ?_ hH ?_; rotate_left; (focus ((rintro W ⟨hW1, hW2, hW3⟩; go_simp) <;> with_reducible rfl)); simp only [Act.put, List.setIfInBounds_toArray, List.set_cons_zero, List.set_cons_succ])
            refine fr_done (by kernel_rfl) ?_
            clear hH
            go_wp2
            go_ret
            exact ⟨rfl, HB.out.trans (hD5.mono HB.out.size)⟩
          · refine ⟨_, rfl, rfl, fun K hK => ?_⟩
            go_wp2
            have hD3 := hD2.alloc hD2.size (.cells #[.int .i64 0, .string ⟨#[]⟩, .int .i64 0] 25)
            have v3 := Blk.new wd 25 [.int .i64 0, .string ⟨#[]⟩, .int .i64 0]
            refine hK.out _ _ (HS.out _ hD3) ?_
            clear hK hH hD2
            generalize wd.alloc (.cells #[.int .i64 0, .string ⟨#[]⟩, .int .i64 0] 25) = w3 at *
            refine fr_op [4] (by kernel_rfl) (by simp) ?_; intro jj hjj; simp only [List.mem_cons, List.not_mem_nil, or_false] at hjj; subst hjj; refine ⟨_, rfl, rfl, fun K hK => ?_⟩
            go_wp2_with (go_at_call 13; refine (T3.out _ (HR.out _ hD3)).mono ?_; rintro e w4 ⟨t3, ht3, rfl, hC4⟩)
            have hD4 := hD3.trans (hC4.mono hD3.size)
            have v4 := v3.below v3.lt hC4
            refine hK.out _ _ (HS.out _ hD4) ?_
            clear hK hC4 hD3 v3
            have hH := HS.out _ hD4
            (refine fr_yes 5 (v := ?_) rfl (by kernel_rfl) rfl ?_ hH ?_; rotate_left; (focus ((rintro W ⟨hW1, hW2, hW3⟩; go_simp) <;> with_reducible rfl)); simp only [Act.put, List.setIfInBounds_toArray, List.set_cons_zero, List.set_cons_succ]); (refine fr_yes 6 (v := ?_) rfl (by kernel_rfl) rfl ?_ hH ?_; rotate_left; (focus ((rintro W ⟨hW1, hW2, hW3⟩; go_simp) <;> with_reducible rfl)); simp only [Act.put, List.setIfInBounds_toArray, List.set_cons_zero, List.set_cons_succ]); (refine fr_yes 7 (v := ?_) rfl (by kernel_rfl) rfl ?_ hH ?_; rotate_left; (focus ((rintro W ⟨hW1, hW2, hW3⟩; go_simp) <;> with_reducible rfl)); simp only [Act.put, List.setIfInBounds_toArray, List.set_cons_zero, List.set_cons_succ]); (refine fr_yes 8 (v := ?_) rfl (by kernel_rfl) rfl ?_ hH ?_; rotate_left; (focus ((rintro W ⟨hW1, hW2, hW3⟩; go_simp) <;> with_reducible rfl)); simp only [Act.put, List.setIfInBounds_toArray, List.set_cons_zero, List.set_cons_succ])
            have z0 := v4.cell (j := 0) rfl
            have z1 := v4.cell (j := 1) rfl
            have z2 := v4.cell (j := 2) rfl
            have f0 := v4.frozen 0
            have f1 := v4.frozen 1
            have f2 := v4.frozen 2
            refine fr_op [10] (by kernel_rfl) (by simp) ?_; intro jj hjj; simp only [List.mem_cons, List.not_mem_nil, or_false] at hjj; subst hjj; refine ⟨_, rfl, rfl, fun K hK => ?_⟩
            go_wp2
            have hD5 := ((hD4.setCell (p := ⟨wd.heap.size, 0, none⟩) hwd (.int .i64 gv.1)).setCell (p := ⟨wd.heap.size, 1, none⟩) hwd (.string t3)).setCell (p := ⟨wd.heap.size, 2, none⟩) hwd (.int .i64 gv.2.2)
            refine hK.out _ _ (HS.out _ hD5) ?_
            clear hK hH
            have hH := HS.out _ hD5
            (refine fr_yes 11 (v := ?_) rfl (by kernel_rfl) rfl ?_ hH ?_; rotate_left; (focus ((rintro W ⟨hW1, hW2, hW3⟩; go_simp) <;> with_reducible rfl)); simp only [Act.put, List.setIfInBounds_toArray, List.set_cons_zero, List.set_cons_succ]); (refine fr_yes 12 (v := ?_) rfl (by kernel_rfl) rfl ?_ hH ?_; rotate_left; (focus ((rintro W ⟨hW1, hW2, hW3⟩; go_simp) <;> with_reducible rfl)); simp only [Act.put, List.setIfInBounds_toArray, List.set_cons_zero, List.set_cons_succ])
            refine fr_done (by kernel_rfl) ?_
            clear hH
            go_wp2
            go_ret
            exact ⟨rfl, HB.out.trans (hD5.mono HB.out.size)⟩
        · have d2 : decide (((putVF k (n, byt s, r)).length : Int) ≤ (jn : Int)) = true := decide_eq_true (by omega)
          generalize putVF k (n, byt s, r) = L at *
          clear Hcut hF
          go_enter Try.func7, Try.ntmps7
          go_wp2_with fail
          refine (vlawake_any _).mono ?_
          rintro e w1 ⟨rfl, hC1⟩
          have A1 := HA.out.below hC1
          obtain ⟨⟨x0, x1, x2⟩, y0, y1, y2⟩ := A1.cells
          go_wp2_with fail
          refine (T1.out _).mono ?_
          rintro e w2 ⟨A2, c2, rfl, hc2, hr2, hC2⟩
          have A2' := A1.below hC2
          clear x0 x1 x2 y0 y1 y2
          obtain ⟨⟨x0, x1, x2⟩, y0, y1, y2⟩ := A2'.cells
          go_wp2
          go_ret
          exact ⟨rfl, A2'.bel⟩
      · have d1 : decide (j < 0) = true := decide_eq_true (by omega)
        generalize putVF k (n, byt s, r) = L at *
        clear Hcut hF
        go_enter Try.func7, Try.ntmps7
        go_wp2_with fail
        refine (vlawake_any _).mono ?_
        rintro e w1 ⟨rfl, hC1⟩
        have A1 := HA.out.below hC1
        obtain ⟨⟨x0, x1, x2⟩, y0, y1, y2⟩ := A1.cells
        go_wp2_with fail
        refine (T1.out _).mono ?_
        rintro e w2 ⟨A2, c2, rfl, hc2, hr2, hC2⟩
        have A2' := A1.below hC2
        clear x0 x1 x2 y0 y1 y2
        obtain ⟨⟨x0, x1, x2⟩, y0, y1, y2⟩ := A2'.cells
        go_wp2
        go_ret
        exact ⟨rfl, A2'.bel⟩
  · have d0 : decide ((300 : Int) < (s.size : Int)) = true := decide_eq_true (by omega)
    generalize putVF k (n, byt s, r) = L at *
    clear Hcut hF
    go_enter Try.func7, Try.ntmps7
    go_wp2_with fail
    refine (vlawake_any _).mono ?_
    rintro e w1 ⟨rfl, hC1⟩
    have A1 := HA.out.below hC1
    obtain ⟨⟨x0, x1, x2⟩, y0, y1, y2⟩ := A1.cells
    go_wp2_with fail
    refine (T1.out _).mono ?_
    rintro e w2 ⟨A2, c2, rfl, hc2, hr2, hC2⟩
    have A2' := A1.below hC2
    clear x0 x1 x2 y0 y1 y2
    obtain ⟨⟨x0, x1, x2⟩, y0, y1, y2⟩ := A2'.cells
    go_wp2
    go_ret
    exact ⟨rfl, A2'.bel⟩
end Go.Proofs.Ytpllbjkjlaacjaa
