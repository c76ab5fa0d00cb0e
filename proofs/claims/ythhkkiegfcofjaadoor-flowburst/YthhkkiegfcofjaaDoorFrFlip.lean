/- The contract of the laws' own Flip: bytes, some of 32 bits of which are turned round, from one on: as a number, the bytes' number with these bits turned round. Condition: there are so many bits, and at most 1,000,000 bytes. -/
import Derived.Test.YthhkkiegfcofjaaDoorFrCutPlain
import Derived.Test.YthhkkiegfcofjaaDoorCrBits
import Derived.Test.YthhkkiegfcofjaaDoorFrBurstPlain
namespace Go.Proofs.YthhkkiegfcofjaaDoor
open Go.RowKit

set_option maxRecDepth 100000 in
set_option maxHeartbeats 2000000 in
theorem flip_any (A : Option Addr) (c n : Nat) (sl : List Nat) (mask a : Nat) (w : World) (hsl : sl.length = n) (hn0 : 0 < n) (hn : n ≤ 1000000) (hsb : ∀ x ∈ sl, x < 256) (hr : Rd w A (u8s sl)) (hmask : mask < 4294967296) (ha : a + 32 ≤ 8 * n) :
    Calls Tryd.prog 23 #[.slice A n c, .int .u32 (mask : Int), .int .i64 (a : Int)] w fun e w' => ∃ g cap ys, e = .returned (.slice (some ⟨g, 0, none⟩) n cap) ∧ n ≤ cap ∧ ys.length = n ∧ (∀ y ∈ ys, y < 256) ∧ val ys = val sl ^^^ mask * 2 ^ a ∧ Rd w' (some ⟨g, 0, none⟩) (u8s ys) ∧ Below w.heap.size w w' := by
  obtain ⟨j0, hj, hz0, hz1, hz2⟩ := info_parts info_u8
  have hevn := fun v m e => burst_even (val sl ^^^ mask * 2 ^ a) v m e
  have hodd := fun m e ys => burst_odd (val sl ^^^ mask * 2 ^ a) m e ys
  generalize hT : val sl ^^^ mask * 2 ^ a = T at *
  have Hevn := Lib.hid hevn
  have Hodd := Lib.hid hodd
  have HT := Lib.hid hT
  clear hevn hodd hT
  go_enter Tryd.func23, Tryd.ntmps23
  go_wp2_with (first
    | (at_builtin; refine wpList_app rfl (.const (.slice none 0 0)) (.tmp 11) 26 rfl w.heap.size 5 j0 (.int .u8 0) 1 Tryd.underlying26 hj hz0 hz1 hz2 rfl (.slice none 0 0) 0 [] rfl (World.ownsRow_nil _ _ _ _) A n c (u8s sl) rfl (by rw [u8s_length, hsl]) hr (u8s_one _) (by simp only [maxLen]; omega) (by omega) (Nat.le_refl _) ?_; intro v4 w4 hown4 hg4 _; simp only [Nat.zero_add, List.nil_append] at hown4; obtain ⟨g4, cap4, hv4, hbase, hlt4, hcap4, hc4⟩ := own_open hown4 (by omega); subst hv4)
    | fail)
  have hB4 : Below w.heap.size w w4 := (Below.refl _ w).grown hg4 (Nat.le_refl _) (fun k hk => by cases hk)
  clear hc4 hg4 hr
  go_loopw [1, 8] (fun mv iv wr => ∃ (k m : Nat) (ys : List Nat), k ≤ 32 ∧ iv = .int .i64 (k : Int) ∧ mv = .int .u32 (m : Int) ∧ m < 2 ^ (32 - k) ∧ ys.length = n ∧ (∀ y ∈ ys, y < 256) ∧ val ys ^^^ m * 2 ^ (a + k) = T ∧ wr.ownsRow w.heap.size 5 1 (.slice (some ⟨g4, 0, none⟩) n cap4) n (u8s ys) ∧ Below w.heap.size w wr) (fun _ iv _ => 32 - (intOf iv).toNat)
  case atStart => exact ⟨0, mask, sl, by omega, rfl, rfl, hmask, hsl, hsb, HT.out, hown4, hB4⟩
  case round =>
    obtain ⟨k, m, ys, hk, rfl, rfl, hm, hyl, hyb, hv, hown, hB⟩ := hrel
    by_cases hk32 : k < 32
    · have hm' : m < 4294967296 := Nat.lt_of_lt_of_le hm (show 2 ^ (32 - k) ≤ 2 ^ 32 from Nat.pow_le_pow_right (by omega) (by omega))
      have hm2 : m / 2 < 2 ^ (32 - (k + 1)) := by
        have := hm
        rw [show 32 - k = 32 - (k + 1) + 1 by omega, Nat.pow_succ] at this
        omega
      have hpl : (a + k) / 8 < ys.length := by omega
      have Hm := Lib.hid hm
      have Hm2 := Lib.hid hm2
      clear hm hm2
      have hk32' : (k : Int) < 32 := by omega
      rcases Nat.mod_two_eq_zero_or_one m with hmod | hmod
      · have hnx := Hevn.out _ _ _ hv hmod
        have Hnx := Lib.hid hnx
        clear hnx hv
        have hmod' : ((m : Int) % 2 == 1) = false := by rw [beq_eq_false_iff_ne]; omega
        go_wp2
        go_roundw
        case rel => exact ⟨k + 1, m / 2, ys, by omega, by go_num, by go_num, Hm2.out, hyl, hyb, Hnx.out, hown, hB⟩
        case measure => simp [intOf]; omega
      · have hnx := Hodd.out _ _ ys hyb hpl hv hmod
        have hgd := getD_lt hyb hpl
        have hcell := hown.cellAt ((a + k) / 8) (by omega)
        rw [u8s_getD hpl] at hcell
        have hfz := hown.frozenAt ((a + k) / 8)
        have hpw : 2 ^ ((a + k) % 8) < 256 := Nat.pow_lt_pow_right (a := 2) (m := (a + k) % 8) (n := 8) (by omega) (by omega)
        have hxor := u8_xor_nat (ys.getD ((a + k) / 8) 0) (2 ^ ((a + k) % 8)) hgd hpw
        have hxl := xor_lt8 hgd hpw
        generalize ys.getD ((a + k) / 8) 0 = d at *
        have hpw2 : ∀ j, j < (a + k) % 8 → 2 ^ (j + 1) < 256 := fun j hj => Nat.pow_lt_pow_right (a := 2) (m := j + 1) (n := 8) (by omega) (by omega)
        have Hpw2 := Lib.hid hpw2
        have Hnx := Lib.hid hnx
        have Hpw := Lib.hid hpw
        have Hxor := Lib.hid hxor
        clear hnx hv hpw2 hpw hxor
        have hmod' : ((m : Int) % 2 == 1) = true := by rw [beq_iff_eq]; omega
        go_wp2
        go_loop [9, 10] (fun bv jv => ∃ j : Nat, j ≤ (a + k) % 8 ∧ jv = .int .i64 (j : Int) ∧ bv = .int .u8 ((2 ^ j : Nat) : Int)) (fun _ jv => 8 - (intOf jv).toNat)
        case atStart => exact ⟨0, by omega, rfl, rfl⟩
        case round =>
          obtain ⟨j, hjl, rfl, rfl⟩ := hrel
          by_cases hjlt : j < (a + k) % 8
          · have hp1 := Hpw2.out j hjlt
            rw [Nat.pow_succ] at hp1
            have hpn : (2 * 2 ^ j : Nat) = 2 ^ (j + 1) := by rw [Nat.pow_succ, Nat.mul_comm]
            have Hpn := Lib.hid hpn
            clear hpn
            generalize 2 ^ j = bj at *
            have hj1 : (j : Int) < ((a : Int) + (k : Int)) % 8 := by omega
            go_wp2
            refine ⟨⟨j + 1, hjlt, by go_num, by rw [← Hpn.out]; go_num⟩, ?_⟩
            simp [intOf]; omega
          · obtain rfl : j = (a + k) % 8 := by omega
            have hxor := Hxor.out
            obtain ⟨hst, _⟩ := hown.stored ((a + k) / 8) (.int .u8 ((d ^^^ 2 ^ ((a + k) % 8) : Nat) : Int))
            rw [u8s_set] at hst
            have hbs := set_byte hyb ((a + k) / 8) hxl
            have hB5 := hB.setCell (p := ⟨g4, (a + k) / 8, none⟩) hbase (.int .u8 ((d ^^^ 2 ^ ((a + k) % 8) : Nat) : Int))
            have hls : (ys.set ((a + k) / 8) (d ^^^ 2 ^ ((a + k) % 8))).length = n := by rw [List.length_set]; exact hyl
            have Hst := Lib.hid hst
            have HB5 := Lib.hid hB5
            generalize hpd : (a + k) / 8 = p at *
            generalize hrd : (a + k) % 8 = r at *
            generalize 2 ^ r = pw at *
            generalize d ^^^ pw = d' at *
            have hdiv : ((a : Int) + (k : Int)) / 8 = (p : Int) := by omega
            have hp1 : (p : Int) < (n : Int) := by omega
            have hp2 : p < n := by omega
            have hr1 : ((a : Int) + (k : Int)) % 8 = (r : Int) := by omega
            have hr2 : decide ((r : Int) < (r : Int)) = false := by simp
            clear hst hB5 hpd hrd
            go_wp2
            refine ⟨⟨k + 1, m / 2, ys.set p d', by omega, by go_num, by go_num, Hm2.out, hls, hbs, Hnx.out, Hst.out, HB5.out⟩, ?_⟩
            simp [intOf]; omega
    · obtain rfl : k = 32 := by omega
      obtain rfl : m = 0 := by simp at hm; omega
      rw [Nat.zero_mul, Nat.xor_zero] at hv
      have HV := Lib.hid hv
      clear hv
      go_wp2
      go_ret
      exact ⟨g4, cap4, ys, rfl, hcap4, hyl, hyb, HV.out, Rd.own hown, hB⟩
end Go.Proofs.YthhkkiegfcofjaaDoor
