/- ValueApart's walk. -/
import Derived.Test.YtpllbjkjlaacjaaVlArg
import Derived.BigQuiet
namespace Go.Proofs.Ytpllbjkjlaacjaa
open Go.RowKit

theorem apart_str {k : Int} {v v' : Vl} (hv : OkV v) (hv' : OkV v') (h : fitsV k v = true) (h' : fitsV k v' = true) : ((strB (putVF k v)).toList == (strB (putVF k v')).toList) = decide (v = v') := by
  rw [str_beq, byt_strB (putVF_byte hv), byt_strB (putVF_byte hv'), putVF_yes h, putVF_yes h']
  exact decide_eq_decide.2 ⟨vl_put_inj hv hv' h h', fun e => by rw [e]⟩

set_option maxRecDepth 100000 in
set_option maxHeartbeats 2000000 in
theorem valueApart_walk (w : World) (fs : Array Value) (f : ByteArray × Int × ByteArray) (hf : rVlFld (All w) w fs.toList f) (cs : Array Value) (x : Int × ByteArray × Int) (h : rVl (All w) w cs.toList x) (ds : Array Value) (y : Int × ByteArray × Int) (hy : rVl (All w) w ds.toList y) :
    Calls Try.prog 8 #[.agg fs, .agg cs, .agg ds] w fun e w' => e = .returned (.bool true) ∧ Below w.heap.size w w' := by
  obtain ⟨rfl, -, -, hk⟩ := vl_fld_arg hf
  obtain ⟨rfl, hs, h0, h1⟩ := vl_val_arg h
  obtain ⟨rfl, ht, j0, j1⟩ := vl_val_arg hy
  obtain ⟨a, k, b⟩ := f
  obtain ⟨n, s, r⟩ := x
  obtain ⟨m, t, q⟩ := y
  simp only at hs ht h0 h1 j0 j1 hk ⊢
  simp only [maxLen] at hs ht
  clear h hf hy hk
  have A0 := (VlArgs.start w a b s k n r).alloc (.cells #[.int .i64 m, .string t, .int .i64 q] 25)
  have c0 := Blk.new ((w.alloc (.cells #[.string a, .int .i64 k, .string b] 23)).alloc (.cells #[.int .i64 n, .string s, .int .i64 r] 25)) 25 [.int .i64 m, .string t, .int .i64 q]
  rw [World.size_alloc, World.size_alloc] at c0
  have HA := Lib.hid A0
  have HC := Lib.hid c0
  clear A0 c0
  by_cases hin : s.size ≤ 300 ∧ t.size ≤ 300
  · obtain ⟨i0, i1⟩ := hin
    have d0 : decide ((300 : Int) < (s.size : Int)) = false := decide_eq_false (by omega)
    have d1 : decide ((300 : Int) < (t.size : Int)) = false := decide_eq_false (by omega)
    have T1 := Lib.hid (fun W => vlput_sl a b s k n r W h0 h1)
    have T2 := Lib.hid (fun W => vlput_sl a b t k m q W j0 j1)
    have Hs := Lib.hid (fun e1 e2 => apart_str (k := k) (vl_ok (r := r) (s := s) h0 h1) (vl_ok (r := q) (s := t) j0 j1) e1 e2)
    have hq : ∀ W, (binOp .eql 25 (.agg #[.int .i64 n, .string s, .int .i64 r]) (.agg #[.int .i64 m, .string t, .int .i64 q])).run Try.prog W = .ok (.bool (decide ((n, byt s, r) = (m, byt t, q)))) W := fun W => by rw [vl_eql, vl_is]
    have hg := sval_guard
    generalize putVF k (n, byt s, r) = L1 at *
    generalize putVF k (m, byt t, q) = L2 at *
    generalize hF1 : fitsV k (n, byt s, r) = F1 at *
    generalize hF2 : fitsV k (m, byt t, q) = F2 at *
    generalize decide ((n, byt s, r) = (m, byt t, q)) = d at *
    clear hF1 hF2
    go_enter Try.func8, Try.ntmps8
    go_wp2_with fail
    refine (vlawake_any _).mono ?_
    rintro e w1 ⟨rfl, hC1⟩
    have A1 := HA.out.below hC1
    have v1 := HC.out.below HC.out.lt hC1
    obtain ⟨⟨x0, x1, x2⟩, y0, y1, y2⟩ := A1.cells
    have z0 := v1.cell (j := 0) rfl
    have z1 := v1.cell (j := 1) rfl
    have z2 := v1.cell (j := 2) rfl
    go_wp2_with fail
    refine (T1.out _).mono ?_
    rintro e w2 ⟨A2, c2, rfl, hc2, hr2, hC2⟩
    have A2' := A1.below hC2
    have v2 := v1.below v1.lt hC2
    clear x0 x1 x2 y0 y1 y2 z0 z1 z2 A1 v1
    obtain ⟨⟨x0, x1, x2⟩, y0, y1, y2⟩ := A2'.cells
    have z0 := v2.cell (j := 0) rfl
    have z1 := v2.cell (j := 1) rfl
    have z2 := v2.cell (j := 2) rfl
    go_wp2_with fail
    refine (T2.out _).mono ?_
    rintro e w3 ⟨A3, c3, rfl, hc3, hr3, hC3⟩
    have A3' := A2'.below hC3
    have v3 := v2.below v2.lt hC3
    clear x0 x1 x2 y0 y1 y2 z0 z1 z2 A2' v2
    obtain ⟨⟨x0, x1, x2⟩, y0, y1, y2⟩ := A3'.cells
    have z0 := v3.cell (j := 0) rfl
    have z1 := v3.cell (j := 1) rfl
    have z2 := v3.cell (j := 2) rfl
    have cv2 := fun j => vl_conv (w3.drewN j) A2 L1 L1.length c2 rfl (hr2.below (below_drewN hC3 j))
    have cv3 := fun j => vl_conv (w3.drewN j) A3 L2 L2.length c3 rfl (hr3.below (below_drewN (Below.refl _ w3) j))
    have hB3 := A3'.bel
    clear hC3 hr2 hr3 hC2 hC1
    cases F1
    · go_wp2
      go_quiet (fail)
      go_wp2
      go_ret
      exact ⟨rfl, below_drewN hB3 _⟩
    · cases F2
      · go_wp2
        go_quiet (fail)
        go_wp2
        go_ret
        exact ⟨rfl, below_drewN hB3 _⟩
      · have hd := Hs.out rfl rfl
        generalize strB L1 = t1 at *
        generalize strB L2 = t2 at *
        go_wp2
        go_quiet (fail)
        go_wp2
        go_ret
        exact ⟨rfl, below_drewN hB3 _⟩
  · by_cases i0 : s.size ≤ 300
    · have d0 : decide ((300 : Int) < (s.size : Int)) = false := decide_eq_false (by omega)
      have d1 : decide ((300 : Int) < (t.size : Int)) = true := decide_eq_true (by omega)
      go_enter Try.func8, Try.ntmps8
      go_wp2_with fail
      refine (vlawake_any _).mono ?_
      rintro e w1 ⟨rfl, hC1⟩
      have A1 := HA.out.below hC1
      have v1 := HC.out.below HC.out.lt hC1
      obtain ⟨⟨x0, x1, x2⟩, y0, y1, y2⟩ := A1.cells
      have z1 := v1.cell (j := 1) rfl
      go_wp2
      go_ret
      exact ⟨rfl, A1.bel⟩
    · have d0 : decide ((300 : Int) < (s.size : Int)) = true := decide_eq_true (by omega)
      go_enter Try.func8, Try.ntmps8
      go_wp2_with fail
      refine (vlawake_any _).mono ?_
      rintro e w1 ⟨rfl, hC1⟩
      have A1 := HA.out.below hC1
      obtain ⟨⟨x0, x1, x2⟩, y0, y1, y2⟩ := A1.cells
      go_wp2
      go_ret
      exact ⟨rfl, A1.bel⟩
end Go.Proofs.Ytpllbjkjlaacjaa
