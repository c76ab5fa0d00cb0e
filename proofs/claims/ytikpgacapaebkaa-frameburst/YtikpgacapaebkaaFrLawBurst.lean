/- FrameBurst's walk. -/
import Derived.Test.YtikpgacapaebkaaFrFlip
namespace Go.Proofs.Ytikpgacapaebkaa
open Go.RowKit

set_option maxRecDepth 100000 in
set_option maxHeartbeats 2000000 in
theorem frameBurst_walk (w : World) (cs : Array Value) (f : Fra) (hf : rFra (All w) w cs.toList f) (A2 : Option Addr) (c2 : Nat) (bs : List Nat) (_hl2 : bs.length ≤ c2) (_hm : c2 ≤ maxLen) (hb : ∀ x ∈ bs, x < 256) (hr2 : Rd w A2 (u8s bs))
    (mask : Nat) (hmask : mask < 4294967296) (i : Int) (i0 : -9223372036854775808 ≤ i) (i1 : i ≤ 9223372036854775807) :
    Calls Try.prog 5 #[.agg cs, .slice A2 bs.length c2, .int .u32 (mask : Int), .int .i64 i] w fun e w' => e = .returned (.bool true) ∧ Below w.heap.size w w' := by
  obtain ⟨A, c, rfl, hlc, hcm, hby, hkb, hrd⟩ := fra_arg hf
  obtain ⟨k, body⟩ := f
  simp only at hlc hby hkb hrd ⊢
  clear hf
  obtain ⟨hz, hsz⟩ := zero_of_info info_fr
  obtain ⟨j0, hi, hz0, hz1, hz2⟩ := info_parts info_u8
  have hB0 : Below w.heap.size w (w.alloc (.cells #[.int .i64 k, .slice A body.length c] 24)) := (Below.refl _ w).alloc (Nat.le_refl _) _
  have hbx := Blk.new w 24 [.int .i64 k, .slice A body.length c]
  have AW := Lib.hid (awake_any (w.alloc (.cells #[.int .i64 k, .slice A body.length c] 24)))
  have P1 := Lib.hid (fun W h => put_any k A c body W hby h)
  go_enter Try.func5, Try.ntmps5
  go_wp2_with fail
  refine AW.out.mono ?_
  rintro e w1 ⟨rfl, hB1⟩
  have hbx1 := hbx.below hbx.lt hB1
  have hB1' := hB0.trans (hB1.mono hB0.size)
  clear AW hB0 hB1 hbx
  have hc0 := hbx1.cell (j := 0) rfl
  have hc1 := hbx1.cell (j := 1) rfl
  go_wp2_with fail
  refine (P1.out w1 (hrd.below hB1')).mono ?_
  rintro e w2 ⟨B1, m1, cap1, E1, rfl, hsay, hB2⟩
  have hbx2 := hbx1.below hbx1.lt hB2
  have hB2' := hB1'.trans (hB2.mono hB1'.size)
  clear P1 hc0 hc1 hbx1 hB1' hB2
  have hc0 := hbx2.cell (j := 0) rfl
  have hc1 := hbx2.cell (j := 1) rfl
  rcases hsay with ⟨hk0, hk1, hl, rfl, rfl, hcap1, hrp⟩ | ⟨_, rfl, rfl, rfl, rfl⟩
  · obtain ⟨q, rfl⟩ := Int.eq_ofNat_of_zero_le hk0
    rw [show ((q : Int)).toNat = q by omega] at hrp
    have hd6 : decide ((600 : Int) < (body.length : Int)) = false := by rw [decide_eq_false_iff_not]; omega
    by_cases hb6 : bs.length ≤ 600
    · have hd7 : decide ((600 : Int) < (bs.length : Int)) = false := by rw [decide_eq_false_iff_not]; omega
      by_cases hm0 : mask = 0
      · subst hm0
        go_wp2
        go_ret
        exact ⟨rfl, hB2'⟩
      · have hmz : ((mask : Int) == 0) = false := by rw [beq_eq_false_iff_ne]; omega
        by_cases hii : 0 ≤ i ∧ i ≤ 8 * ((body.length : Int) + 10) - 32
        · obtain ⟨hi0, hi1⟩ := hii
          obtain ⟨a, rfl⟩ := Int.eq_ofNat_of_zero_le hi0
          have hd1 : decide ((a : Int) < 0) = false := by rw [decide_eq_false_iff_not]; omega
          have hd2 : decide (8 * ((body.length : Int) + 10) - 32 < (a : Int)) = false := by rw [decide_eq_false_iff_not]; omega
          have hpb := putL_byte (k := q) (b := body) (by omega) (by omega) hby
          have F1 := Lib.hid (flip_any B1 cap1 (body.length + 10) (putL q body) mask a w2 (putL_length q body) (by omega) (by omega) hpb hrp hmask (by omega))
          have hbu := fun (x : List Nat) (h1 : ∀ y ∈ x, y < 256) (h2 : x.length = body.length + 10) (h3 : val x = val (putL q body) ^^^ mask * 2 ^ a) => frame_burst (q := q) (by omega) (by omega) hby h1 h2 mask a hmask hm0 (by omega) h3 bs
          have Hbu := Lib.hid hbu
          clear hpb hbu hrp
          generalize val (putL q body) ^^^ mask * 2 ^ a = T at *
          go_wp2_with fail
          refine F1.out.mono ?_
          rintro e w3 ⟨g3, cap3, ys, rfl, hcap3, hyl, hyb, hyv, hry, hB3⟩
          have hB3' := hB2'.trans (hB3.mono hB2'.size)
          have hE := Hbu.out ys hyb hyl hyv
          have hr23 := hr2.below hB3'
          have hxl : (u8s ys).length = body.length + 10 := by rw [u8s_length, hyl]
          have G1 := Lib.hid (fun (W : World) (A : Option Addr) (c : Nat) (hc : body.length + 10 + bs.length ≤ c) (h : Rd W A (u8s ys ++ u8s bs)) => get_any A c (body.length + 10 + bs.length) (ys ++ bs) W (by rw [List.length_append, hyl]) hc (by intro x hx; rcases List.mem_append.1 hx with h | h; exact hyb x h; exact hb x h) (by rw [u8s_append]; exact h) (by omega))
          obtain ⟨hbF, hbN⟩ := get_bad hE
          rw [hbF, hbN] at G1
          have hEd : ((getE (ys ++ bs) : Int) != 0) = true := by rw [bne_iff_ne]; omega
          generalize getE (ys ++ bs) = E at *
          have hxo := u8s_one ys
          clear Hbu F1 hyv hyb hbF hbN hB3 hB2' hbx2 hc0 hc1
          generalize u8s ys = ps at *
          go_wp2_with (first
            | (at_builtin; refine wpList_app rfl (.const (.slice none 0 0)) (.tmp 62) 22 rfl w3.heap.size 5 j0 (.int .u8 0) 1 Try.underlying22 hi hz0 hz1 hz2 rfl (.slice none 0 0) 0 [] rfl (World.ownsRow_nil _ _ _ _) (some ⟨g3, 0, none⟩) (body.length + 10) cap3 ps rfl hxl hry hxo (by simp only [maxLen]; omega) (by omega) (Nat.le_refl _) ?_; intro v4 w4 hown4 hg4 _; simp only [Nat.zero_add, List.nil_append] at hown4; have hB4 : Below w3.heap.size w3 w4 := (Below.refl _ w3).grown hg4 (Nat.le_refl _) (fun k hk => by cases hk); have hr24 := hr23.below hB4; have hsz4 := hg4.size)
            | (at_builtin; refine wpList_app rfl (.tmp 63) (.tmp 64) 22 rfl w3.heap.size 5 j0 (.int .u8 0) 1 Try.underlying22 hi hz0 hz1 hz2 rfl v4 (body.length + 10) ps rfl hown4 A2 bs.length c2 (u8s bs) rfl (u8s_length _) hr24 (u8s_one _) (by simp only [maxLen]; omega) (by omega) hsz4 ?_; intro v5 w5 hown5 hg5 _; obtain ⟨A5, c5, hv5e, hc5, hrd5, _⟩ := own_slice hown5; subst hv5e)
            | fail)
          have hB5 : Below w3.heap.size w3 w5 := hB4.grown hg5 hsz4 (fun k hk => (hown4.lt k hk).1)
          have hB5' := hB3'.trans (hB5.mono hB3'.size)
          clear hg4 hg5 hown4 hown5 hB4 hB5 hB3' hr24 hr23 hry
          refine (G1.out _ A5 c5 hc5 hrd5).mono ?_
          rintro e w6 ⟨A6, c6, rfl, hc6, hm6, hrd6, hB6⟩
          have hB6' := hB5'.trans (hB6.mono hB5'.size)
          clear G1 hB6 hB5' hrd6 hrd5
          go_wp2
          go_ret
          exact ⟨rfl, hB6'.alloc hB6'.size _⟩
        · have hor : decide (i < 0) = true ∨ (decide (i < 0) = false ∧ decide (8 * ((body.length : Int) + 10) - 32 < i) = true) := by
            simp only [decide_eq_true_eq, decide_eq_false_iff_not]; omega
          have hge : decide ((10 : Int) ≤ (body.length : Int) + 10) = true := by rw [decide_eq_true_eq]; omega
          rcases hor with h0 | ⟨h0, h1⟩
          all_goals
            go_wp2
            go_ret
            exact ⟨rfl, hB2'⟩
    · have hd7 : decide ((600 : Int) < (bs.length : Int)) = true := by rw [decide_eq_true_eq]; omega
      go_wp2
      go_ret
      exact ⟨rfl, hB2'⟩
  · by_cases h6 : 600 < body.length
    · have hd6 : decide ((600 : Int) < (body.length : Int)) = true := by rw [decide_eq_true_eq]; omega
      go_wp2
      go_ret
      exact ⟨rfl, hB2'⟩
    · have hd6 : decide ((600 : Int) < (body.length : Int)) = false := by rw [decide_eq_false_iff_not]; omega
      by_cases h7 : 600 < bs.length
      · have hd7 : decide ((600 : Int) < (bs.length : Int)) = true := by rw [decide_eq_true_eq]; omega
        go_wp2
        go_ret
        exact ⟨rfl, hB2'⟩
      · have hd7 : decide ((600 : Int) < (bs.length : Int)) = false := by rw [decide_eq_false_iff_not]; omega
        go_wp2
        go_ret
        exact ⟨rfl, hB2'⟩
end Go.Proofs.Ytikpgacapaebkaa
