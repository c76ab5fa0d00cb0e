/- CrcBurst's walk. -/
import Derived.Test.YtfidndbiialgoaaCrLawByte
namespace Go.Proofs.Ytfidndbiialgoaa
open Go.RowKit

theorem burst_even (T v m e : Nat) (h : v ^^^ m * 2 ^ e = T) (hm : m % 2 = 0) : v ^^^ m / 2 * 2 ^ (e + 1) = T := by
  rw [← h]
  congr 1
  rw [Nat.pow_succ, Nat.mul_comm (2 ^ e) 2, ← Nat.mul_assoc]
  congr 1
  omega
theorem burst_odd (T m e : Nat) (ys : List Nat) (hy : ∀ y ∈ ys, y < 256) (hp : e / 8 < ys.length) (h : val ys ^^^ m * 2 ^ e = T) (hm : m % 2 = 1) : val (ys.set (e / 8) (ys.getD (e / 8) 0 ^^^ 2 ^ (e % 8))) ^^^ m / 2 * 2 ^ (e + 1) = T := by
  have hb : 2 ^ (e % 8) < 256 := Nat.pow_lt_pow_right (a := 2) (m := e % 8) (n := 8) (by omega) (by omega)
  rw [val_set ys (e / 8) (2 ^ (e % 8)) hp hy hb, ← h]
  have e1 : 2 ^ (e % 8) * 256 ^ (e / 8) = 2 ^ e := by
    rw [show (256 : Nat) = 2 ^ 8 from rfl, ← Nat.pow_mul, ← Nat.pow_add]
    congr 1
    omega
  rw [e1, Nat.xor_assoc]
  congr 1
  have e2 : m = 1 + 2 ^ 1 * (m / 2) := by omega
  conv => rhs; rw [e2, add_eq_xor (a := 1) (k := 1) (by decide), xor_mul_pow]
  rw [Nat.one_mul, Nat.pow_succ, Nat.pow_one, Nat.mul_comm 2 (m / 2), Nat.mul_assoc, Nat.mul_comm 2]
theorem getD_lt {ys : List Nat} (hy : ∀ y ∈ ys, y < 256) {p : Nat} (hp : p < ys.length) : ys.getD p 0 < 256 := by
  have : ys.getD p 0 = ys[p] := by simp [hp]
  rw [this]
  exact hy _ (List.getElem_mem hp)
theorem u8s_getD {ys : List Nat} {p : Nat} (hp : p < ys.length) : (u8s ys)[p]? = some (.int .u8 ((ys.getD p 0 : Nat) : Int)) := by
  rw [u8s_get hp]; simp [hp]

set_option maxRecDepth 100000 in
set_option maxHeartbeats 2000000 in
theorem crcBurst_walk (w : World) (A : Option Addr) (c : Nat) (xs : List Nat) (_hl : xs.length ≤ c) (_hm : c ≤ maxLen) (hb : ∀ x ∈ xs, x < 256) (hr : Rd w A (u8s xs)) (mask : Nat) (hmask : mask < 4294967296) (i : Int) (i0 : -9223372036854775808 ≤ i) (i1 : i ≤ 9223372036854775807) :
    Calls Try.prog 4 #[.slice A xs.length c, .int .u32 (mask : Int), .int .i64 i] w fun e w' => e = .returned (.bool true) ∧ Below w.heap.size w w' := by
  by_cases hcase : xs.length ≤ 300 ∧ mask ≠ 0
  · obtain ⟨hx, hm0⟩ := hcase
    have F1 := Lib.hid (fun (W : World) (h : Rd W A (u8s xs)) => seal_form A c xs.length xs W rfl hb h (by omega))
    have G1 := fun (W : World) (g cap : Nat) (hc : xs.length + 4 ≤ cap) (h : Rd W (some ⟨g, 0, none⟩) (u8s (sealL xs))) => good_any (some ⟨g, 0, none⟩) cap (xs.length + 4) (sealL xs) W (sealL_length _) hc (sealL_byte hb) h (by omega)
    rw [good_seal] at G1
    replace G1 := Lib.hid G1
    have hsl := sealL_length xs
    have hsb := sealL_byte hb
    have hsg := good_seal xs
    generalize sealL xs = sl at *
    have hx' : decide ((300 : Int) < (xs.length : Int)) = false := by simp; omega
    have hm0' : ((mask : Int) == 0) = false := by rw [beq_eq_false_iff_ne]; omega
    by_cases hi : 0 ≤ i ∧ i ≤ 8 * (xs.length : Int)
    · obtain ⟨hi0, hi1⟩ := hi
      obtain ⟨a, rfl⟩ := Int.eq_ofNat_of_zero_le hi0
      have ha : a ≤ 8 * xs.length := by omega
      obtain ⟨j0, hj, hz0, hz1, hz2⟩ := info_parts info_u8
      have hd1 : decide ((a : Int) < 0) = false := by rw [decide_eq_false_iff_not]; omega
      have hd2 : decide (8 * (xs.length : Int) < (a : Int)) = false := by rw [decide_eq_false_iff_not]; omega
      go_enter Try.func4, Try.ntmps4
      go_wp2_with fail
      refine (awake_any _).mono ?_
      rintro e w1 ⟨rfl, hB1⟩
      have hr1 := hr.below hB1
      go_wp2_with fail
      refine (F1.out _ hr1).mono ?_
      rintro e w2 ⟨g, cap, rfl, hcap, _, _, hrs, hB2⟩
      have hB2' : Below w.heap.size w w2 := hB1.trans (hB2.mono hB1.size)
      clear hr hr1 hB1 hB2
      go_wp2_with fail
      refine (G1.out _ _ _ hcap hrs).mono ?_
      rintro e w3 ⟨rfl, hB3⟩
      have hrs3 := hrs.below hB3
      have hB3' : Below w.heap.size w w3 := hB2'.trans (hB3.mono hB2'.size)
      clear hrs hB2' hB3
      go_wp2_with (first
        | (at_builtin; refine wpList_app rfl (.const (.slice none 0 0)) (.tmp 47) 22 rfl w3.heap.size 5 j0 (.int .u8 0) 1 Try.underlying22 hj hz0 hz1 hz2 rfl (.slice none 0 0) 0 [] rfl (World.ownsRow_nil _ _ _ _) (some ⟨g, 0, none⟩) (xs.length + 4) cap (u8s sl) rfl (by rw [u8s_length, hsl]) hrs3 (u8s_one _) (by simp only [maxLen]; omega) (by omega) (Nat.le_refl _) ?_; intro v4 w4 hown4 hg4 _; simp only [Nat.zero_add, List.nil_append] at hown4; obtain ⟨g4, cap4, hv4, hg4g, hlt4, hcap4, hc4⟩ := own_open hown4 (by omega); subst hv4)
        | fail)
      have hB4 : Below w3.heap.size w3 w4 := (Below.refl _ w3).grown hg4 (Nat.le_refl _) (fun k hk => by cases hk)
      clear hc4 hg4 hrs3
      have hB4' : Below w.heap.size w w4 := hB3'.trans (hB4.mono hB3'.size)
      have hbase : w.heap.size ≤ g4 := Nat.le_trans hB3'.size hg4g
      have hevn := fun v m e => burst_even (val sl ^^^ mask * 2 ^ a) v m e
      have hodd := fun m e ys => burst_odd (val sl ^^^ mask * 2 ^ a) m e ys
      have hfin : ∀ ys : List Nat, (∀ y ∈ ys, y < 256) → ys.length = sl.length → val ys = val sl ^^^ mask * 2 ^ a → goodL ys = false := fun ys h1 h2 h3 => burst hsb h1 h2 mask a hmask hm0 (by omega) h3 hsg
      generalize hT : val sl ^^^ mask * 2 ^ a = T at *
      have Hevn := Lib.hid hevn
      have Hodd := Lib.hid hodd
      have Hfin := Lib.hid hfin
      have HT := Lib.hid hT
      have HB3 := Lib.hid hB3'
      clear hevn hodd hfin hT hB4 hB3' hcap hg4g F1 G1
      have hown5 := own_mono hown4 HB3.out.size
      clear hown4
      go_loopw [1, 11] (fun mv iv wr => ∃ (k m : Nat) (ys : List Nat), k ≤ 32 ∧ iv = .int .i64 (k : Int) ∧ mv = .int .u32 (m : Int) ∧ m < 2 ^ (32 - k) ∧ ys.length = xs.length + 4 ∧ (∀ y ∈ ys, y < 256) ∧ val ys ^^^ m * 2 ^ (a + k) = T ∧ wr.ownsRow w.heap.size 5 1 (.slice (some ⟨g4, 0, none⟩) (xs.length + 4) cap4) (xs.length + 4) (u8s ys) ∧ Below w.heap.size w wr) (fun _ iv _ => 32 - (intOf iv).toNat)
      case atStart => exact ⟨0, mask, sl, by omega, rfl, rfl, hmask, hsl, hsb, HT.out, hown5, hB4'⟩
      case round =>
        obtain ⟨k, m, ys, hk, rfl, rfl, hm, hyl, hyb, hv, hown, hB⟩ := hrel
        by_cases hk32 : k < 32
        · have hm' : m < 4294967296 := Nat.lt_of_lt_of_le hm (show 2 ^ (32 - k) ≤ 2 ^ 32 from Nat.pow_le_pow_right (by omega) (by omega))
          have hm2 : m / 2 < 2 ^ (32 - (k + 1)) := by
            have := hm
            rw [show 32 - k = 32 - (k + 1) + 1 by omega, Nat.pow_succ] at this
            omega
          have hpl : (a + k) / 8 < ys.length := by omega
          have Hm := Lib.hid hm
          have Hm2 := Lib.hid hm2
          clear hm hm2
          have hk32' : (k : Int) < 32 := by omega
          rcases Nat.mod_two_eq_zero_or_one m with hmod | hmod
          · have hnx := Hevn.out _ _ _ hv hmod
            have Hnx := Lib.hid hnx
            clear hnx hv
            have hmod' : ((m : Int) % 2 == 1) = false := by rw [beq_eq_false_iff_ne]; omega
            go_wp2
            go_roundw
            case rel => exact ⟨k + 1, m / 2, ys, by omega, by go_num, by go_num, Hm2.out, hyl, hyb, Hnx.out, hown, hB⟩
            case measure => simp [intOf]; omega
          · have hnx := Hodd.out _ _ ys hyb hpl hv hmod
            have hgd := getD_lt hyb hpl
            have hcell := hown.cellAt ((a + k) / 8) (by omega)
            rw [u8s_getD hpl] at hcell
            have hfz := hown.frozenAt ((a + k) / 8)
            have hpw : 2 ^ ((a + k) % 8) < 256 := Nat.pow_lt_pow_right (a := 2) (m := (a + k) % 8) (n := 8) (by omega) (by omega)
            have hxor := u8_xor_nat (ys.getD ((a + k) / 8) 0) (2 ^ ((a + k) % 8)) hgd hpw
            have hxl := xor_lt8 hgd hpw
            generalize ys.getD ((a + k) / 8) 0 = d at *
            have hpw2 : ∀ j, j < (a + k) % 8 → 2 ^ (j + 1) < 256 := fun j hj => Nat.pow_lt_pow_right (a := 2) (m := j + 1) (n := 8) (by omega) (by omega)
            have Hpw2 := Lib.hid hpw2
            have Hnx := Lib.hid hnx
            have Hpw := Lib.hid hpw
            have Hxor := Lib.hid hxor
            clear hnx hv hpw2 hpw hxor
            have hmod' : ((m : Int) % 2 == 1) = true := by rw [beq_iff_eq]; omega
            go_wp2
            go_loop [12, 13] (fun bv jv => ∃ j : Nat, j ≤ (a + k) % 8 ∧ jv = .int .i64 (j : Int) ∧ bv = .int .u8 ((2 ^ j : Nat) : Int)) (fun _ jv => 8 - (intOf jv).toNat)
            case atStart => exact ⟨0, by omega, rfl, rfl⟩
            case round =>
              obtain ⟨j, hjl, rfl, rfl⟩ := hrel
              by_cases hjlt : j < (a + k) % 8
              · have hp1 := Hpw2.out j hjlt
                rw [Nat.pow_succ] at hp1
                have hpn : (2 * 2 ^ j : Nat) = 2 ^ (j + 1) := by rw [Nat.pow_succ, Nat.mul_comm]
                have Hpn := Lib.hid hpn
                clear hpn
                generalize 2 ^ j = bj at *
                have hj1 : (j : Int) < ((a : Int) + (k : Int)) % 8 := by omega
                go_wp2
                refine ⟨⟨j + 1, hjlt, by go_num, by rw [← Hpn.out]; go_num⟩, ?_⟩
                simp [intOf]; omega
              · obtain rfl : j = (a + k) % 8 := by omega
                have hxor := Hxor.out
                obtain ⟨hst, _⟩ := hown.stored ((a + k) / 8) (.int .u8 ((d ^^^ 2 ^ ((a + k) % 8) : Nat) : Int))
                rw [u8s_set] at hst
                have hbs := set_byte hyb ((a + k) / 8) hxl
                have hB5 := hB.setCell (p := ⟨g4, (a + k) / 8, none⟩) hbase (.int .u8 ((d ^^^ 2 ^ ((a + k) % 8) : Nat) : Int))
                have hj1 : decide ((((a + k) % 8 : Nat) : Int) < ((a : Int) + (k : Int)) % 8) = false := by rw [decide_eq_false_iff_not]; omega
                have hls : (ys.set ((a + k) / 8) (d ^^^ 2 ^ ((a + k) % 8))).length = xs.length + 4 := by rw [List.length_set]; exact hyl
                have Hst := Lib.hid hst
                have HB5 := Lib.hid hB5
                generalize hpd : (a + k) / 8 = p at *
                generalize hrd : (a + k) % 8 = r at *
                generalize 2 ^ r = pw at *
                generalize d ^^^ pw = d' at *
                have hdiv : ((a : Int) + (k : Int)) / 8 = (p : Int) := by omega
                have hp1 : (p : Int) < (xs.length : Int) + 4 := by omega
                have hp2 : p < xs.length + 4 := by omega
                have hr1 : ((a : Int) + (k : Int)) % 8 = (r : Int) := by omega
                have hr2 : decide ((r : Int) < (r : Int)) = false := by simp
                clear hst hB5 hj1 hpd hrd
                go_wp2
                refine ⟨⟨k + 1, m / 2, ys.set p d', by omega, by go_num, by go_num, Hm2.out, hls, hbs, Hnx.out, Hst.out, HB5.out⟩, ?_⟩
                simp [intOf]; omega
        · obtain rfl : k = 32 := by omega
          obtain rfl : m = 0 := by simp at hm; omega
          rw [Nat.zero_mul, Nat.xor_zero] at hv
          have hgx := Hfin.out ys hyb (by rw [hyl, hsl]) hv
          have hgo := good_any (some ⟨g4, 0, none⟩) cap4 (xs.length + 4) ys wr hyl hcap4 hyb (Rd.own hown) (by omega)
          rw [hgx] at hgo
          have Hgo := Lib.hid hgo
          clear hgo hgx hv
          go_wp2_with fail
          refine Hgo.out.mono ?_
          rintro e w5 ⟨rfl, hB5⟩
          go_wp2
          go_ret
          exact ⟨rfl, hB.trans (hB5.mono hB.size)⟩
    · have hor : decide (i < 0) = true ∨ (decide (i < 0) = false ∧ decide (8 * ((xs.length : Int) + 4) - 32 < i) = true) := by
        by_cases h : i < 0
        · exact .inl (by simpa using h)
        · exact .inr ⟨by rw [decide_eq_false_iff_not]; omega, by rw [decide_eq_true_eq]; omega⟩
      rcases hor with hd1 | ⟨hd1, hd2⟩
      all_goals
        go_enter Try.func4, Try.ntmps4
        go_wp2_with fail
        refine (awake_any _).mono ?_
        rintro e w1 ⟨rfl, hB1⟩
        have hr1 := hr.below hB1
        go_wp2_with fail
        refine (F1.out _ hr1).mono ?_
        rintro e w2 ⟨g, cap, rfl, hcap, _, _, hrs, hB2⟩
        have hB2' : Below w.heap.size w w2 := hB1.trans (hB2.mono hB1.size)
        clear hr hr1 hB1 hB2
        go_wp2_with fail
        refine (G1.out _ _ _ hcap hrs).mono ?_
        rintro e w3 ⟨rfl, hB3⟩
        have hrs3 := hrs.below hB3
        have hB3' : Below w.heap.size w w3 := hB2'.trans (hB3.mono hB2'.size)
        clear hrs hB2' hB3
        go_wp2_with fail
        refine (G1.out _ _ _ hcap hrs3).mono ?_
        rintro e w4 ⟨rfl, hB4⟩
        go_wp2
        go_ret
        exact ⟨rfl, hB3'.trans (hB4.mono hB3'.size)⟩
  · have hor : ¬ (xs.length ≤ 300) ∨ (xs.length ≤ 300 ∧ mask = 0) := by omega
    rcases hor with h | ⟨h, rfl⟩
    all_goals
      go_enter Try.func4, Try.ntmps4
      go_wp2_with fail
      refine (awake_any _).mono ?_
      rintro e w1 ⟨rfl, hb1⟩
      go_wp2
      go_ret
      exact ⟨rfl, hb1⟩
end Go.Proofs.Ytfidndbiialgoaa
