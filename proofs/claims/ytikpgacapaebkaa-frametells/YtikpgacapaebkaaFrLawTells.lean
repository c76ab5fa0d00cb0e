/- FrameTells' walk. -/
import Derived.Test.YtikpgacapaebkaaFrRefAll
import Derived.Test.YtikpgacapaebkaaHeld
namespace Go.Proofs.Ytikpgacapaebkaa
open Go.RowKit

/-- What Put tells of any frame: bytes, and why none. -/
def pbL (k : Int) (bs : List Nat) : List Nat := if 0 ≤ k ∧ k ≤ 255 ∧ bs.length ≤ 255 then putL k.toNat bs else []
def peL (k : Int) (bs : List Nat) : Nat := if 0 ≤ k ∧ k ≤ 255 ∧ bs.length ≤ 255 then 0 else 1
theorem putSays_plain {k : Int} {bs : List Nat} {w : World} {B : Option Addr} {m cap E : Nat} (h : PutSays k bs w B m cap E) : (pbL k bs).length = m ∧ E = peL k bs ∧ Rd w B (u8s (pbL k bs)) := by
  unfold pbL peL
  rcases h with ⟨h0, h1, h2, rfl, rfl, _, hr⟩ | ⟨h, rfl, rfl, rfl, rfl⟩
  · rw [if_pos ⟨h0, h1, h2⟩, if_pos ⟨h0, h1, h2⟩]
    exact ⟨putL_length _ _, rfl, hr⟩
  · rw [if_neg h, if_neg h]
    exact ⟨rfl, rfl, .inl rfl⟩

set_option maxRecDepth 100000 in
set_option maxHeartbeats 2000000 in
theorem frameTells_walk (w : World) (cs1 : Array Value) (f1 : Fra) (hf1 : rFra (All w) w cs1.toList f1) (cs2 : Array Value) (f2 : Fra) (hf2 : rFra (All w) w cs2.toList f2) (A3 : Option Addr) (c3 : Nat) (bs : List Nat) (hl3 : bs.length ≤ c3) (_hm : c3 ≤ maxLen) (hb : ∀ x ∈ bs, x < 256) (hr3 : Rd w A3 (u8s bs)) :
    Calls Try.prog 3 #[.agg cs1, .agg cs2, .slice A3 bs.length c3] w fun e w' => e = .returned (.bool true) ∧ Below w.heap.size w w' := by
  obtain ⟨A1, c1, rfl, hlc1, hcm1, hby1, hkb1, hrd1⟩ := fra_arg hf1
  obtain ⟨A2, c2, rfl, hlc2, hcm2, hby2, hkb2, hrd2⟩ := fra_arg hf2
  obtain ⟨k1, b1⟩ := f1
  obtain ⟨k2, b2⟩ := f2
  simp only at hlc1 hby1 hkb1 hrd1 hlc2 hby2 hkb2 hrd2 ⊢
  clear hf1 hf2
  obtain ⟨hz, hsz⟩ := zero_of_info info_fr
  have H0 := ((((Held.start w).more hrd1).more hrd2).more hr3 |>.box 24 [.int .i64 k1, .slice A1 b1.length c1]).box 24 [.int .i64 k2, .slice A2 b2.length c2]
  rw [show (w.alloc (.cells [Value.int .i64 k1, .slice A1 b1.length c1].toArray 24)).heap.size = w.heap.size + 1 by simp] at H0
  have AW := Lib.hid (awake_any ((w.alloc (.cells #[.int .i64 k1, .slice A1 b1.length c1] 24)).alloc (.cells #[.int .i64 k2, .slice A2 b2.length c2] 24)))
  clear hrd1 hrd2 hr3
  by_cases h600 : b1.length ≤ 600 ∧ b2.length ≤ 600 ∧ bs.length ≤ 600
  · obtain ⟨h6a, h6b, h6c⟩ := h600
    have hd6a : decide ((600 : Int) < (b1.length : Int)) = false := by rw [decide_eq_false_iff_not]; omega
    have hd6b : decide ((600 : Int) < (b2.length : Int)) = false := by rw [decide_eq_false_iff_not]; omega
    have hd6c : decide ((600 : Int) < (bs.length : Int)) = false := by rw [decide_eq_false_iff_not]; omega
    have P1 := Lib.hid (fun W h => put_any k1 A1 c1 b1 W hby1 h)
    have P2 := Lib.hid (fun W h => rput_any k1 A1 c1 b1 W hby1 h)
    have G1 := Lib.hid (fun W h => get_any A3 c3 bs.length bs W rfl hl3 hb h (by omega))
    have G2 := Lib.hid (fun W h => rget_any A3 c3 bs.length bs W rfl hl3 hb h (by omega))
    have L1 := Lib.hid (fun W h => all_any A3 c3 bs.length bs W rfl hl3 hb h (by omega))
    have L2 := Lib.hid (fun W h => rall_any A3 c3 bs.length bs W rfl hl3 hb h (by omega))
    have S1 := Lib.hid (fun W B1 B2 d1 d2 h1 h2 => rsame_any B1 B2 (getF bs).1 (getF bs).1 (getF bs).2.length d1 (getF bs).2.length d2 (getF bs).2 (getF bs).2 W rfl rfl (getF_byte hb) (getF_byte hb) h1 h2)
    have Q1 := Lib.hid (fun W B1 B2 d1 d2 h1 h2 => lists_any B1 B2 (allL bs).2.length d1 (allL bs).2.length d2 (allL bs).2 (allL bs).2 W h1 h2)
    have S2 := Lib.hid (fun W h1 h2 => rsame_any A1 A2 k1 k2 b1.length c1 b2.length c2 b1 b2 W rfl rfl hby1 hby2 h1 h2)
    have S3 := Lib.hid (fun W h1 h2 => same_any A1 A2 k1 k2 b1.length c1 b2.length c2 b1 b2 W rfl rfl hby1 hby2 h1 h2)
    rw [show ((getF bs).1 == (getF bs).1 && (getF bs).2 == (getF bs).2) = true by simp] at S1
    rw [show decide ((allL bs).2 = (allL bs).2) = true by simp] at Q1
    generalize (k1 == k2 && b1 == b2) = sm at *
    generalize getE bs = E at *
    generalize getF bs = F at *
    generalize getN bs = N at *
    generalize allL bs = R at *
    obtain ⟨re, rl⟩ := R
    simp only at L1 L2 Q1
    go_enter Try.func3, Try.ntmps3
    go_wp2_with fail
    refine AW.out.mono ?_
    rintro e w1 ⟨rfl, hB1⟩
    have H1 := H0.below hB1
    clear AW hB1 H0
    have hc0 := H1.cell (i := 1) rfl (j := 0) rfl
    have hc1 := H1.cell (i := 1) rfl (j := 1) rfl
    have hc2 := H1.cell (i := 0) rfl (j := 0) rfl
    have hc3 := H1.cell (i := 0) rfl (j := 1) rfl
    go_wp2_with fail
    refine (P1.out w1 (H1.rd (i := 2) rfl)).mono ?_
    rintro e w2 ⟨B2, m2, cap2, E2, rfl, hsay2, hB2⟩
    obtain ⟨hm2, rfl, hr2⟩ := putSays_plain hsay2
    have H2 := (H1.below hB2).more hr2
    clear hc0 hc1 hc2 hc3 H1 hB2 P1 hsay2 hr2
    have hc0 := H2.cell (i := 1) rfl (j := 0) rfl
    have hc1 := H2.cell (i := 1) rfl (j := 1) rfl
    go_wp2_with fail
    refine (P2.out w2 (H2.rd (i := 3) rfl)).mono ?_
    rintro e w3 ⟨B3, m3, cap3, E3, rfl, hsay3, hB3⟩
    obtain ⟨hm3, rfl, hr3⟩ := putSays_plain hsay3
    have H3 := (H2.below hB3).more hr3
    clear hc0 hc1 H2 hB3 P2 hsay3 hr3
    generalize pbL k1 b1 = pb at *
    generalize peL k1 b1 = pe at *
    go_wp2_with fail
    refine (G1.out w3 (H3.rd (i := 2) rfl)).mono ?_
    rintro e w4 ⟨A4, c4, rfl, hc4, hm4, hrd4, hB4⟩
    have H4 := ((H3.below hB4).more (RdIn.rd (hrd4.keeps (Keeps.mono fun _ h => h.2)))).box 24 [.int .i64 F.1, .slice A4 F.2.length c4]
    clear H3 hB4 G1 hrd4
    go_wp2_with fail
    refine (G2.out _ (H4.rd (i := 3) rfl)).mono ?_
    rintro e w5 ⟨A5, c5, rfl, hc5, hm5, hrd5, hB5⟩
    have H5 := ((H4.below hB5).more (RdIn.rd (hrd5.keeps (Keeps.mono fun _ h => h.2)))).box 24 [.int .i64 F.1, .slice A5 F.2.length c5]
    clear H4 hB5 G2 hrd5
    go_wp2_with fail
    refine (L1.out _ (H5.rd (i := 4) rfl)).mono ?_
    rintro e w6 ⟨v6, rfl, hsl6, hB6⟩
    have H6 := H5.below hB6
    clear H5 hB6 L1
    have hcp := hsl6
    obtain ⟨A6, c6, xs6, hv6, _⟩ := hcp
    obtain rfl : v6 = .slice A6 rl.length c6 := by simpa using hv6
    clear hv6
    go_wp2_with fail
    refine (L2.out _ (H6.rd (i := 4) rfl)).mono ?_
    rintro e w7 ⟨v7, rfl, hsl7, hB7⟩
    have H7 := H6.below hB7
    have hsl6' := (rSlice_stays rFra_stays).to (Keeps.below hB7) hsl6
    clear H6 hB7 L2 hsl6
    have hcp := hsl7
    obtain ⟨A7, c7, xs7, hv7, _⟩ := hcp
    obtain rfl : v7 = .slice A7 rl.length c7 := by simpa using hv7
    clear hv7
    have hc0 := H7.cell (i := 1) rfl (j := 0) rfl
    have hc1 := H7.cell (i := 1) rfl (j := 1) rfl
    have hc2 := H7.cell (i := 0) rfl (j := 0) rfl
    have hc3 := H7.cell (i := 0) rfl (j := 1) rfl
    go_wp2_with fail
    refine (S1.out w7 A4 A5 c4 c5 (H7.rd (i := 1) rfl) (H7.rd (i := 0) rfl)).mono ?_
    rintro e w8 ⟨rfl, hB8⟩
    have H8 := H7.below hB8
    have hsl6 := (rSlice_stays rFra_stays).to (Keeps.below hB8) hsl6'
    have hsl7' := (rSlice_stays rFra_stays).to (Keeps.below hB8) hsl7
    clear hc0 hc1 hc2 hc3 H7 hB8 hsl7 hsl6' S1
    go_wp2_with fail
    refine (Q1.out w8 A6 A7 c6 c7 hsl6 hsl7').mono ?_
    rintro e w9 ⟨rfl, hB9⟩
    have H9 := H8.below hB9
    clear H8 hB9 hsl6 hsl7' Q1
    have hc0 := H9.cell (i := 3) rfl (j := 0) rfl
    have hc1 := H9.cell (i := 3) rfl (j := 1) rfl
    have hc2 := H9.cell (i := 2) rfl (j := 0) rfl
    have hc3 := H9.cell (i := 2) rfl (j := 1) rfl
    go_wp2_with fail
    refine (S2.out w9 (H9.rd (i := 6) rfl) (H9.rd (i := 5) rfl)).mono ?_
    rintro e w10 ⟨rfl, hB10⟩
    have H10 := H9.below hB10
    clear hc0 hc1 hc2 hc3 H9 hB10 S2
    have hc0 := H10.cell (i := 3) rfl (j := 0) rfl
    have hc1 := H10.cell (i := 3) rfl (j := 1) rfl
    have hc2 := H10.cell (i := 2) rfl (j := 0) rfl
    have hc3 := H10.cell (i := 2) rfl (j := 1) rfl
    have hcv1 := conv_str (P := Try.prog) w10 _ _ _ Try.underlying22 Try.underlying5 Try.underlying9 B2 pb m2 cap2 hm2 (H10.rd (i := 3) rfl)
    have hcv2 := conv_str (P := Try.prog) w10 _ _ _ Try.underlying22 Try.underlying5 Try.underlying9 B3 pb m3 cap3 hm3 (H10.rd (i := 2) rfl)
    have hq1 : ((strB pb).toList == (strB pb).toList) = true := by simp
    have hq2 : ((pe : Int) == (pe : Int)) = true := by simp
    have hq3 : ((N : Int) == (N : Int)) = true := by simp
    have hq4 : ((E : Int) == (E : Int)) = true := by simp
    have hq5 : ((re : Int) == (re : Int)) = true := by simp
    have hq6 : (sm == sm) = true := by simp
    go_wp2_with fail
    refine (S3.out w10 (H10.rd (i := 6) rfl) (H10.rd (i := 5) rfl)).mono ?_
    rintro e w11 ⟨rfl, hB11⟩
    have H11 := H10.below hB11
    clear hc0 hc1 hc2 hc3 H10 hB11 S3 hcv1 hcv2
    go_wp2
    go_ret
    exact ⟨rfl, H11.bel⟩
  · have hor : decide ((600 : Int) < (b1.length : Int)) = true ∨ (decide ((600 : Int) < (b1.length : Int)) = false ∧ decide ((600 : Int) < (b2.length : Int)) = true) ∨ (decide ((600 : Int) < (b1.length : Int)) = false ∧ decide ((600 : Int) < (b2.length : Int)) = false ∧ decide ((600 : Int) < (bs.length : Int)) = true) := by
      simp only [decide_eq_true_eq, decide_eq_false_iff_not]; omega
    go_enter Try.func3, Try.ntmps3
    go_wp2_with fail
    refine AW.out.mono ?_
    rintro e w1 ⟨rfl, hB1⟩
    have H1 := H0.below hB1
    have hc1 := H1.cell (i := 1) rfl (j := 1) rfl
    have hc3 := H1.cell (i := 0) rfl (j := 1) rfl
    rcases hor with h0 | ⟨h0, h1⟩ | ⟨h0, h1, h2⟩
    all_goals
      go_wp2
      go_ret
      exact ⟨rfl, H1.bel⟩
end Go.Proofs.Ytikpgacapaebkaa
