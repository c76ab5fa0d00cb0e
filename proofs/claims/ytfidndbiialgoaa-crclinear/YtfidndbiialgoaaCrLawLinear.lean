/- CrcLinear's walk. -/
import Derived.Test.YtfidndbiialgoaaCrLawByte
namespace Go.Proofs.Ytfidndbiialgoaa
open Go.RowKit

set_option maxRecDepth 100000 in
set_option maxHeartbeats 2000000 in
theorem crcLinear_walk (w : World) (A : Option Addr) (c : Nat) (xs : List Nat) (_hl : xs.length ≤ c) (_hm : c ≤ maxLen) (hb : ∀ x ∈ xs, x < 256) (hr : Rd w A (u8s xs))
    (A' : Option Addr) (c' : Nat) (ys : List Nat) (_hl' : ys.length ≤ c') (_hm' : c' ≤ maxLen) (hb' : ∀ x ∈ ys, x < 256) (hr' : Rd w A' (u8s ys))
    (A'' : Option Addr) (c'' : Nat) (zs : List Nat) (_hl'' : zs.length ≤ c'') (_hm'' : c'' ≤ maxLen) (hb'' : ∀ x ∈ zs, x < 256) (hr'' : Rd w A'' (u8s zs)) :
    Calls Try.prog 6 #[.slice A xs.length c, .slice A' ys.length c', .slice A'' zs.length c''] w fun e w' => e = .returned (.bool true) ∧ Below w.heap.size w w' := by
  by_cases hcase : xs.length ≤ 300 ∧ ys.length = xs.length ∧ zs.length = xs.length
  · obtain ⟨hx, hy, hz⟩ := hcase
    obtain ⟨j0, hj, hz0, hz1, hz2⟩ := info_parts info_u8
    have T1 := Lib.hid (fun (W : World) (h : Rd W A (u8s xs)) => sum_any A c xs.length xs W rfl hb h (by omega))
    have T2 := Lib.hid (fun (W : World) (h : Rd W A' (u8s ys)) => sum_any A' c' xs.length ys W hy hb' h (by omega))
    have T3 := Lib.hid (fun (W : World) (h : Rd W A'' (u8s zs)) => sum_any A'' c'' xs.length zs W hz hb'' h (by omega))
    have T4 := Lib.hid (fun (W : World) (B : Option Addr) (e : Nat) (h : Rd W B (u8s (xor3 xs ys zs))) => sum_any B e xs.length (xor3 xs ys zs) W (xor3_length _ _ _ hy hz) (xor3_byte _ _ _ hb hb' hb'') h (by omega))
    have h1 := sumL_lt hb
    have h2 := sumL_lt hb'
    have h3 := sumL_lt hb''
    have e1 := u32_xor_nat (sumL xs) (sumL ys) h1 h2
    have e2 := u32_xor_nat (sumL xs ^^^ sumL ys) (sumL zs) (xor_lt32 h1 h2) h3
    rw [← sum3 xs ys zs hy hz] at e2
    generalize sumL xs = m1 at *
    generalize sumL ys = m2 at *
    generalize sumL zs = m3 at *
    generalize sumL (xor3 xs ys zs) = m4 at *
    generalize m1 ^^^ m2 = m12 at *
    have hx' : decide ((300 : Int) < (xs.length : Int)) = false := by simp; omega
    have hnn : ((xs.length : Int) != (xs.length : Int)) = false := by simp
    have H0 : Hid (xor3 xs ys zs = xor3 (xs.take xs.length) (ys.take xs.length) (zs.take xs.length)) := Lib.hid (by rw [List.take_length, List.take_of_length_le (by omega), List.take_of_length_le (by omega)])
    have hstep : ∀ k, k < xs.length → ∃ a b d : Nat, a < 256 ∧ b < 256 ∧ d < 256 ∧ (u8s xs)[k]? = some (.int .u8 (a : Int)) ∧ (u8s ys)[k]? = some (.int .u8 (b : Int)) ∧ (u8s zs)[k]? = some (.int .u8 (d : Int)) ∧ xor3 (xs.take (k + 1)) (ys.take (k + 1)) (zs.take (k + 1)) = xor3 (xs.take k) (ys.take k) (zs.take k) ++ [a ^^^ b ^^^ d] := fun k hk => by
      have hk2 : k < ys.length := by omega
      have hk3 : k < zs.length := by omega
      refine ⟨xs[k], ys[k], zs[k], hb _ (List.getElem_mem hk), hb' _ (List.getElem_mem hk2), hb'' _ (List.getElem_mem hk3), u8s_get hk, u8s_get hk2, u8s_get hk3, ?_⟩
      rw [xor3_take xs ys zs k hk hy hz]
      simp [hk, hk2, hk3]
    have hlk : ∀ k, k ≤ xs.length → (xor3 (xs.take k) (ys.take k) (zs.take k)).length = k := fun k hk => by
      rw [xor3_length _ _ _ (by simp; omega) (by simp; omega)]; simp; omega
    have Hstep := Lib.hid hstep
    have Hlk := Lib.hid hlk
    clear hstep hlk h1 h2 h3
    rw [hy, hz]
    clear hy hz
    go_enter Try.func6, Try.ntmps6
    go_wp2_with fail
    refine (awake_any _).mono ?_
    rintro e w1 ⟨rfl, hB1⟩
    have hr1 := hr.below hB1
    have hr1' := hr'.below hB1
    have hr1'' := hr''.below hB1
    go_wp2
    go_loopw [8, 9] (fun v i wr => ∃ k : Nat, k ≤ xs.length ∧ i = .int .i64 (k : Int) ∧ wr.ownsRow w1.heap.size 5 1 v k (u8s (xor3 (xs.take k) (ys.take k) (zs.take k))) ∧ Below w1.heap.size w1 wr)
      (fun _ i _ => xs.length - (intOf i).toNat)
    case atStart => exact ⟨0, Nat.zero_le _, rfl, World.ownsRow_nil _ _ _ _, Below.refl _ _⟩
    case round =>
      obtain ⟨k, hk, rfl, hown, hB⟩ := hrel
      have hsz := hB.size
      by_cases hlt : k < xs.length
      · obtain ⟨a, b, d, ha, hbb, hd, hga, hgb, hgd, hnext⟩ := Hstep.out k hlt
        obtain ⟨p1, o1, rfl, hp1, hc1⟩ := hr1.at (k := k) (by rw [u8s_length]; exact hlt)
        obtain ⟨p2, o2, rfl, hp2, hc2⟩ := hr1'.at (k := k) (List.getElem?_eq_some_iff.1 hgb).1
        obtain ⟨p3, o3, rfl, hp3, hc3⟩ := hr1''.at (k := k) (List.getElem?_eq_some_iff.1 hgd).1
        have hS : ∀ W, Below w1.heap.size w1 W → W.cell? ⟨p1, o1 + k, none⟩ = some (.int .u8 (a : Int)) ∧ W.cell? ⟨p2, o2 + k, none⟩ = some (.int .u8 (b : Int)) ∧ W.cell? ⟨p3, o3 + k, none⟩ = some (.int .u8 (d : Int)) := fun W hW =>
          ⟨(hW.cell (p := ⟨p1, o1 + k, none⟩) hp1).trans (hc1 k _ hga), (hW.cell (p := ⟨p2, o2 + k, none⟩) hp2).trans (hc2 k _ hgb), (hW.cell (p := ⟨p3, o3 + k, none⟩) hp3).trans (hc3 k _ hgd)⟩
        have q1 := u8_xor_nat a b ha hbb
        have q2 := u8_xor_nat (a ^^^ b) d (xor_lt8 ha hbb) hd
        generalize a ^^^ b = ab at *
        generalize ab ^^^ d = abd at *
        have HS := Lib.hid hS
        have Hnext := Lib.hid hnext
        clear hS hnext hc1 hc2 hc3 hga hgb hgd
        generalize hpre : xor3 (xs.take k) (ys.take k) (zs.take k) = pre at *
        clear hpre
        have hlk1 : (k : Int) < (xs.length : Int) := by omega
        go_wp2_with fail
        refine sch_start [(0, true), (1, true), (2, true), (3, true), (4, true), (5, true), (6, true), (7, true), (8, true), (9, true), (10, true), (11, true), (12, true), (13, true), (14, true), (15, false), (16, false), (17, true)]
          (fun W => W.cell? ⟨p1, o1 + k, none⟩ = some (.int .u8 (a : Int)) ∧ W.cell? ⟨p2, o2 + k, none⟩ = some (.int .u8 (b : Int)) ∧ W.cell? ⟨p3, o3 + k, none⟩ = some (.int .u8 (d : Int))) (by kernel_rfl) rfl (by kernel_rfl) (fun _ _ _ _ _ h => h) (HS.out _ hB.drew) (fun hH => ?_)
        repeat (first | (refine sch_yes (v := ?_) rfl rfl ?_ hH ?_; rotate_left; (focus ((rintro W ⟨hW1, hW2, hW3⟩; go_simp) <;> with_reducible rfl)); simp only [Act.put, List.setIfInBounds_toArray, List.set_cons_zero, List.set_cons_succ]) | (refine sch_no rfl rfl hH ?_; simp only [Act.put, List.setIfInBounds_toArray, List.set_cons_zero, List.set_cons_succ]))
        refine sch_call rfl rfl (fun K hK => ?_)
        go_wp2
        have hBd := hB.drew.alloc (o := .cells #[.int .u8 (abd : Int)] 5) hsz
        refine hK.out _ _ (HS.out _ ?_) ?_
        · exact hBd
        clear hK
        refine sch_call rfl rfl (fun K hK => ?_)
        refine wp_app (.tmp 39) (.tmp 54) 22 rfl w1.heap.size 5 j0 (.int .u8 0) 1 Try.underlying22 hj hz0 hz1 hz2 rfl _ k (u8s pre) rfl (World.ownsRow.alloc (w := wr.drew) hown _) (some ⟨wr.heap.size, 0, none⟩) 1 1 (u8s [abd]) rfl rfl (lit_rd wr.drew [abd]) (u8s_one _) (by simp only [maxLen]; omega) (by omega) (by simp; omega) ?_
        intro v4 w4 hown4 hg4 _
        have hB4 : Below w1.heap.size w1 w4 := hBd.grown hg4 (by simp; omega) (fun k hk => (hown.lt k hk).1)
        rw [← u8s_append, ← Hnext.out] at hown4
        refine hK.out _ _ (HS.out _ hB4) ?_
        clear hK hH
        have hH := HS.out _ hB4
        repeat (first | (refine sch_yes (v := ?_) rfl rfl ?_ hH ?_; rotate_left; (focus ((rintro W ⟨hW1, hW2, hW3⟩; go_simp) <;> with_reducible rfl)); simp only [Act.put, List.setIfInBounds_toArray, List.set_cons_zero, List.set_cons_succ]) | (refine sch_no rfl rfl hH ?_; simp only [Act.put, List.setIfInBounds_toArray, List.set_cons_zero, List.set_cons_succ]))
        refine sch_done ?_
        go_wp2
        go_roundw
        case rel => exact ⟨k + 1, by omega, by go_num, hown4, hB4⟩
        case measure => simp [intOf]; omega
      · obtain rfl : k = xs.length := by omega
        rw [← H0.out] at hown
        obtain ⟨A4, c4, hv4, _, hrd, _⟩ := own_slice hown
        subst hv4
        have hB' : Below w.heap.size w wr := hB1.trans (hB.mono hB1.size)
        have hrr := hr1.below hB
        have hrr' := hr1'.below hB
        have hrr'' := hr1''.below hB
        clear hr hr' hr'' hr1 hr1' hr1'' hown hB hB1 Hstep Hlk H0
        go_wp2_with fail
        refine (T4.out _ _ _ hrd).mono ?_
        rintro e w5 ⟨rfl, hB5⟩
        go_wp2_with fail
        refine (T1.out _ (hrr.below hB5)).mono ?_
        rintro e w6 ⟨rfl, hB6⟩
        have hB6 := hB5.trans (hB6.mono hB5.size)
        go_wp2_with fail
        refine (T2.out _ (hrr'.below hB6)).mono ?_
        rintro e w7 ⟨rfl, hB7⟩
        have hB7 := hB6.trans (hB7.mono hB6.size)
        go_wp2_with fail
        refine (T3.out _ (hrr''.below hB7)).mono ?_
        rintro e w8 ⟨rfl, hB8⟩
        have hB8 := hB7.trans (hB8.mono hB7.size)
        go_wp2
        go_ret
        exact ⟨rfl, hB'.trans (hB8.mono hB'.size)⟩
  · have hcase' : ¬ (xs.length ≤ 300) ∨ (xs.length ≤ 300 ∧ ys.length ≠ xs.length) ∨ (xs.length ≤ 300 ∧ ys.length = xs.length ∧ zs.length ≠ xs.length) := by omega
    rcases hcase' with h | ⟨h, h'⟩ | ⟨h, h', h''⟩
    · go_enter Try.func6, Try.ntmps6
      go_wp2_with fail
      refine (awake_any _).mono ?_
      rintro e w1 ⟨rfl, hb1⟩
      go_wp2
      go_ret
      exact ⟨rfl, hb1⟩
    · have q : ((ys.length : Int) != (xs.length : Int)) = true := by rw [bne_iff_ne]; omega
      go_enter Try.func6, Try.ntmps6
      go_wp2_with fail
      refine (awake_any _).mono ?_
      rintro e w1 ⟨rfl, hb1⟩
      go_wp2
      go_ret
      exact ⟨rfl, hb1⟩
    · have q : ((zs.length : Int) != (xs.length : Int)) = true := by rw [bne_iff_ne]; omega
      have q' : ((ys.length : Int) != (xs.length : Int)) = false := by simp [h']
      go_enter Try.func6, Try.ntmps6
      go_wp2_with fail
      refine (awake_any _).mono ?_
      rintro e w1 ⟨rfl, hb1⟩
      go_wp2
      go_ret
      exact ⟨rfl, hb1⟩
end Go.Proofs.Ytfidndbiialgoaa
