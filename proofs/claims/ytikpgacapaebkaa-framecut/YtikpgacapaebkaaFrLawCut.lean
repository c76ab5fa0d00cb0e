/- FrameCut's walk. -/
import Derived.Test.YtikpgacapaebkaaFrCutPlain
namespace Go.Proofs.Ytikpgacapaebkaa
open Go.RowKit

set_option maxRecDepth 100000 in
set_option maxHeartbeats 2000000 in
theorem frameCut_walk (w : World) (cs1 : Array Value) (f1 : Fra) (hf1 : rFra (All w) w cs1.toList f1) (cs2 : Array Value) (f2 : Fra) (hf2 : rFra (All w) w cs2.toList f2) (i : Int) (i0 : -9223372036854775808 ≤ i) (i1 : i ≤ 9223372036854775807) :
    Calls Try.prog 6 #[.agg cs1, .agg cs2, .int .i64 i] w fun e w' => e = .returned (.bool true) ∧ Below w.heap.size w w' := by
  obtain ⟨A1, c1, rfl, hlc1, hcm1, hby1, hkb1, hrd1⟩ := fra_arg hf1
  obtain ⟨A2, c2, rfl, hlc2, hcm2, hby2, hkb2, hrd2⟩ := fra_arg hf2
  obtain ⟨k1, b1⟩ := f1
  obtain ⟨k2, b2⟩ := f2
  simp only at hlc1 hby1 hkb1 hrd1 hlc2 hby2 hkb2 hrd2 ⊢
  clear hf1 hf2
  obtain ⟨j0, hi, hz0, hz1, hz2⟩ := info_parts info_u8
  have hB0 : Below w.heap.size w ((w.alloc (.cells #[.int .i64 k1, .slice A1 b1.length c1] 24)).alloc (.cells #[.int .i64 k2, .slice A2 b2.length c2] 24)) := ((Below.refl _ w).alloc (Nat.le_refl _) _).alloc (by simp) _
  have hbx1 := (Blk.new w 24 [.int .i64 k1, .slice A1 b1.length c1]).alloc (.cells #[.int .i64 k2, .slice A2 b2.length c2] 24)
  have hbx2 := Blk.new (w.alloc (.cells #[.int .i64 k1, .slice A1 b1.length c1] 24)) 24 [.int .i64 k2, .slice A2 b2.length c2]
  rw [show (w.alloc (.cells #[.int .i64 k1, .slice A1 b1.length c1] 24)).heap.size = w.heap.size + 1 by simp] at hbx2
  have AW := Lib.hid (awake_any ((w.alloc (.cells #[.int .i64 k1, .slice A1 b1.length c1] 24)).alloc (.cells #[.int .i64 k2, .slice A2 b2.length c2] 24)))
  have P1 := Lib.hid (fun W h => put_any k1 A1 c1 b1 W hby1 h)
  have P2 := Lib.hid (fun W h => put_any k2 A2 c2 b2 W hby2 h)
  go_enter Try.func6, Try.ntmps6
  go_wp2_with fail
  refine AW.out.mono ?_
  rintro e w1 ⟨rfl, hB1⟩
  have hbx11 := hbx1.below hbx1.lt hB1
  have hbx12 := hbx2.below hbx2.lt hB1
  have hB1' := hB0.trans (hB1.mono hB0.size)
  clear AW hB0 hB1 hbx1 hbx2
  have hc10 := hbx11.cell (j := 0) rfl
  have hc11 := hbx11.cell (j := 1) rfl
  go_wp2_with fail
  refine (P1.out w1 (hrd1.below hB1')).mono ?_
  rintro e w2 ⟨B1, m1, cap1, E1, rfl, hsay1, hB2⟩
  have hbx22 := hbx12.below hbx12.lt hB2
  have hB2' := hB1'.trans (hB2.mono hB1'.size)
  clear P1 hc10 hc11 hbx11 hbx12 hB1'
  have hc20 := hbx22.cell (j := 0) rfl
  have hc21 := hbx22.cell (j := 1) rfl
  go_wp2_with fail
  refine (P2.out w2 (hrd2.below hB2')).mono ?_
  rintro e w3 ⟨B2, m2, cap2, E2, rfl, hsay2, hB3⟩
  have hB3' := hB2'.trans (hB3.mono hB2'.size)
  clear P2 hc20 hc21 hbx22 hB2' hB2
  rcases hsay1 with ⟨hk10, hk11, hl1, rfl, rfl, hcap1, hrp1⟩ | ⟨_, rfl, rfl, rfl, rfl⟩
  · rcases hsay2 with ⟨hk20, hk21, hl2, rfl, rfl, hcap2, hrp2⟩ | ⟨_, rfl, rfl, rfl, rfl⟩
    · obtain ⟨q1, rfl⟩ := Int.eq_ofNat_of_zero_le hk10
      obtain ⟨q2, rfl⟩ := Int.eq_ofNat_of_zero_le hk20
      rw [show ((q1 : Int)).toNat = q1 by omega] at hrp1
      rw [show ((q2 : Int)).toNat = q2 by omega] at hrp2
      have hrp13 := hrp1.below hB3
      have hpl1 := putL_length q1 b1
      have hpl2 := putL_length q2 b2
      have hpb1 := putL_byte (k := q1) (b := b1) (by omega) (by omega) hby1
      have hpb2 := putL_byte (k := q2) (b := b2) (by omega) (by omega) hby2
      have L1 := fun (W : World) (A : Option Addr) (c j : Nat) (hj : j ≤ b1.length + 10 + (b2.length + 10)) (hc : j ≤ c) (h : Rd W A (u8s (putL q1 b1) ++ u8s (putL q2 b2))) => all_any A c j ((putL q1 b1 ++ putL q2 b2).take j) W (by rw [List.length_take, List.length_append, hpl1, hpl2]; omega) hc (by intro x hx; rcases List.mem_append.1 (List.mem_of_mem_take hx) with h | h; exact hpb1 x h; exact hpb2 x h) (by rw [← u8s_take, u8s_append]; exact h.take j) (by omega)
      have hcut := allL_cut q1 q2 b1 b2
      have hxl1 : (u8s (putL q1 b1)).length = b1.length + 10 := by rw [u8s_length, hpl1]
      have hxl2 : (u8s (putL q2 b2)).length = b2.length + 10 := by rw [u8s_length, hpl2]
      have hxo1 := u8s_one (putL q1 b1)
      have hxo2 := u8s_one (putL q2 b2)
      have HL1 := Lib.hid L1
      have Hcut := Lib.hid hcut
      clear L1 hcut hpb1 hpb2 hpl1 hpl2 hrp1 hrd1 hrd2
      generalize u8s (putL q1 b1) = ps1 at *
      generalize u8s (putL q2 b2) = ps2 at *
      by_cases hii : 0 ≤ i ∧ i ≤ (b1.length : Int) + 10 + ((b2.length : Int) + 10)
      · obtain ⟨hi0, hi1⟩ := hii
        obtain ⟨j, rfl⟩ := Int.eq_ofNat_of_zero_le hi0
        have hd1 : decide ((j : Int) < 0) = false := by rw [decide_eq_false_iff_not]; omega
        have hd2 : decide ((b1.length : Int) + 10 + ((b2.length : Int) + 10) < (j : Int)) = false := by rw [decide_eq_false_iff_not]; omega
        have hj1 : (0 : Int) ≤ (j : Int) := by omega
        go_wp2_with (first
          | (at_builtin; refine wpList_app rfl (.const (.slice none 0 0)) (.tmp 38) 22 rfl w3.heap.size 5 j0 (.int .u8 0) 1 Try.underlying22 hi hz0 hz1 hz2 rfl (.slice none 0 0) 0 [] rfl (World.ownsRow_nil _ _ _ _) B1 (b1.length + 10) cap1 ps1 rfl hxl1 hrp13 hxo1 (by simp only [maxLen]; omega) (by omega) (Nat.le_refl _) ?_; intro v4 w4 hown4 hg4 _; simp only [Nat.zero_add, List.nil_append] at hown4; have hB4 : Below w3.heap.size w3 w4 := (Below.refl _ w3).grown hg4 (Nat.le_refl _) (fun k hk => by cases hk); have hrp24 := hrp2.below hB4; have hsz4 := hg4.size)
          | (at_builtin; refine wpList_app rfl (.tmp 39) (.tmp 40) 22 rfl w3.heap.size 5 j0 (.int .u8 0) 1 Try.underlying22 hi hz0 hz1 hz2 rfl v4 (b1.length + 10) ps1 rfl hown4 B2 (b2.length + 10) cap2 ps2 rfl hxl2 hrp24 hxo2 (by simp only [maxLen]; omega) (by omega) hsz4 ?_; intro v5 w5 hown5 hg5 _; obtain ⟨g5, c5, hv5e, _, _, hc5, _⟩ := own_open hown5 (by omega); subst hv5e; have hjc : (j : Int) ≤ (c5 : Int) := (by omega); have hjc2 : j ≤ c5 := (by omega))
          | fail)
        have hB5 : Below w3.heap.size w3 w5 := hB4.grown hg5 hsz4 (fun k hk => (hown4.lt k hk).1)
        have hB5' := hB3'.trans (hB5.mono hB3'.size)
        have L2 := HL1.out w5 (some ⟨g5, 0, none⟩) c5 j (by omega) hjc2 (Rd.own hown5)
        rw [Hcut.out j (by omega)] at L2
        have HL2 := Lib.hid L2
        clear hB5 hB3' hg4 hg5 hown4 hown5 hrp24 hB4 hB3 hrp13 hrp2 L2 HL1 Hcut
        by_cases h0 : j = 0
        · subst h0
          have L3 := HL2.out
          simp only [if_true] at L3
          refine L3.mono ?_
          rintro e w6 ⟨v6, rfl, ⟨A6, c6, xs6, hv6, _⟩, hB6⟩
          obtain rfl : v6 = .slice A6 0 c6 := by simpa using hv6
          go_wp2
          go_ret
          exact ⟨rfl, hB5'.trans (hB6.mono hB5'.size)⟩
        · have he0 : ((j : Int) == 0) = false := by rw [beq_eq_false_iff_ne]; omega
          have hp0 : decide ((0 : Int) < (j : Int)) = true := by rw [decide_eq_true_eq]; omega
          by_cases h1 : j = b1.length + 10
          · have he1 : ((j : Int) == (b1.length : Int) + 10) = true := by rw [beq_iff_eq]; omega
            have he2 : ((j : Int) == (b1.length : Int) + 10 + ((b2.length : Int) + 10)) = false := by rw [beq_eq_false_iff_ne]; omega
            have L3 := HL2.out
            rw [if_neg h0, if_pos h1] at L3
            refine L3.mono ?_
            rintro e w6 ⟨v6, rfl, ⟨A6, c6, xs6, hv6, _⟩, hB6⟩
            obtain rfl : v6 = .slice A6 1 c6 := by simpa using hv6
            go_wp2
            go_ret
            exact ⟨rfl, hB5'.trans (hB6.mono hB5'.size)⟩
          · have he1 : ((j : Int) == (b1.length : Int) + 10) = false := by rw [beq_eq_false_iff_ne]; omega
            by_cases h2 : j = b1.length + 10 + (b2.length + 10)
            · have he2 : ((j : Int) == (b1.length : Int) + 10 + ((b2.length : Int) + 10)) = true := by rw [beq_iff_eq]; omega
              have L3 := HL2.out
              rw [if_neg h0, if_neg h1, if_pos h2] at L3
              refine L3.mono ?_
              rintro e w6 ⟨v6, rfl, ⟨A6, c6, xs6, hv6, _⟩, hB6⟩
              obtain rfl : v6 = .slice A6 2 c6 := by simpa using hv6
              go_wp2
              go_ret
              exact ⟨rfl, hB5'.trans (hB6.mono hB5'.size)⟩
            · have he2 : ((j : Int) == (b1.length : Int) + 10 + ((b2.length : Int) + 10)) = false := by rw [beq_eq_false_iff_ne]; omega
              have L3 := HL2.out
              rw [if_neg h0, if_neg h1, if_neg h2] at L3
              refine L3.mono ?_
              rintro e w6 ⟨v6, rfl, ⟨A6, c6, xs6, hv6, _⟩, hB6⟩
              obtain rfl : v6 = .slice A6 0 c6 := by simpa using hv6
              go_wp2
              go_ret
              exact ⟨rfl, hB5'.trans (hB6.mono hB5'.size)⟩
      · have hor : decide (i < 0) = true ∨ (decide (i < 0) = false ∧ decide ((b1.length : Int) + 10 + ((b2.length : Int) + 10) < i) = true) := by
          simp only [decide_eq_true_eq, decide_eq_false_iff_not]; omega
        rcases hor with h0 | ⟨h0, h1⟩
        all_goals
          go_wp2_with (first
            | (at_builtin; refine wpList_app rfl (.const (.slice none 0 0)) (.tmp 38) 22 rfl w3.heap.size 5 j0 (.int .u8 0) 1 Try.underlying22 hi hz0 hz1 hz2 rfl (.slice none 0 0) 0 [] rfl (World.ownsRow_nil _ _ _ _) B1 (b1.length + 10) cap1 ps1 rfl hxl1 hrp13 hxo1 (by simp only [maxLen]; omega) (by omega) (Nat.le_refl _) ?_; intro v4 w4 hown4 hg4 _; simp only [Nat.zero_add, List.nil_append] at hown4; have hB4 : Below w3.heap.size w3 w4 := (Below.refl _ w3).grown hg4 (Nat.le_refl _) (fun k hk => by cases hk); have hrp24 := hrp2.below hB4; have hsz4 := hg4.size)
            | (at_builtin; refine wpList_app rfl (.tmp 39) (.tmp 40) 22 rfl w3.heap.size 5 j0 (.int .u8 0) 1 Try.underlying22 hi hz0 hz1 hz2 rfl v4 (b1.length + 10) ps1 rfl hown4 B2 (b2.length + 10) cap2 ps2 rfl hxl2 hrp24 hxo2 (by simp only [maxLen]; omega) (by omega) hsz4 ?_; intro v5 w5 hown5 hg5 _; obtain ⟨g5, c5, hv5e, _, _, hc5, _⟩ := own_open hown5 (by omega); subst hv5e)
            | fail)
          go_ret
          exact ⟨rfl, hB3'.trans ((hB4.grown hg5 hsz4 (fun k hk => (hown4.lt k hk).1)).mono hB3'.size)⟩
    · go_wp2
      go_ret
      exact ⟨rfl, hB3'⟩
  · go_wp2
    go_ret
    exact ⟨rfl, hB3'⟩
end Go.Proofs.Ytikpgacapaebkaa
