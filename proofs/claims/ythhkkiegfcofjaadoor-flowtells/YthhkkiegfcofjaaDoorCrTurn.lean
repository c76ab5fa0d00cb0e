/- The contracts of crc.halve and of the document's own turn and With: for every number of 32 bits, and all bytes. No condition but a slice's own bound. -/
import Derived.Test.YthhkkiegfcofjaaDoorCrPlain
import Derived.Laws.BitsAllLaws
namespace Go.Proofs.YthhkkiegfcofjaaDoor
open Go.RowKit

theorem xor_half (n : Nat) (hn : n < 4294967296) : bits BinOp.xor IntKind.u32 ((n : Int) / 2) 3988292384 = ((n / 2 ^^^ 3988292384 : Nat) : Int) :=
  u32_xor_nat (n / 2) 3988292384 (by omega) (by omega)

set_option maxHeartbeats 400000 in
theorem halve_any (n : Nat) (w : World) (hn : n < 4294967296) :
    Calls Tryd.prog 75 #[.int .u32 (n : Int)] w fun e w' => e = .returned (.int .u32 (hv n : Int)) ∧ w = w' := by
  by_cases h : n % 2 = 0
  · go_enter Tryd.func75, Tryd.ntmps75
    go_wp2
    go_ret
    refine ⟨ret_int ?_, rfl⟩
    rw [hv, if_pos h]; omega
  · go_enter Tryd.func75, Tryd.ntmps75
    go_wp2
    go_ret
    refine ⟨ret_int ?_, rfl⟩
    rw [hv, if_neg h]
    exact xor_half n hn
set_option maxHeartbeats 400000 in
theorem turn_any (n b : Nat) (w : World) (hn : n < 4294967296) (hb : b < 2) :
    Calls Tryd.prog 70 #[.int .u32 (n : Int), .int .u32 (b : Int)] w fun e w' => e = .returned (.int .u32 (hv (n ^^^ b) : Int)) ∧ w = w' := by
  have ht := turn_hv n b hb
  by_cases h : n % 2 = b
  · go_enter Tryd.func70, Tryd.ntmps70
    go_wp2
    go_ret
    refine ⟨ret_int ?_, rfl⟩
    rw [← ht, if_neg (by omega)]; omega
  · go_enter Tryd.func70, Tryd.ntmps70
    go_wp2
    go_ret
    refine ⟨ret_int ?_, rfl⟩
    rw [← ht, if_pos h]
    exact xor_half n hn

theorem flip_bits (n : Nat) (hn : n < 4294967296) : bits BinOp.xor IntKind.u32 (n : Int) 4294967295 = ((flip32 n : Nat) : Int) := u32_xor_nat n 4294967295 hn (by omega)

set_option maxRecDepth 100000 in
set_option maxHeartbeats 1000000 in
theorem rwith_any (s : Nat) (A : Option Addr) (c : Nat) (bs : List Nat) (w : World) (hs : s < 4294967296) (hb : ∀ x ∈ bs, x < 256) (hr : Rd w A (u8s bs)) (hlen : bs.length ≤ 140737488355328) :
    Calls Tryd.prog 64 #[.int .u32 (s : Int), .slice A bs.length c] w fun e w' => e = .returned (.int .u32 (withL s bs : Int)) ∧ w = w' := by
  have hf := flip_bits s hs
  have hfl := flip_lt hs
  have hres : ∀ f, f < 4294967296 → fol (flip32 s) bs = f → bits BinOp.xor IntKind.u32 (f : Int) 4294967295 = ((withL s bs : Nat) : Int) := fun f h1 h => by rw [flip_bits f h1, withL, h]
  have Hres := Lib.hid hres
  clear hres
  generalize flip32 s = f0 at *
  go_enter Tryd.func64, Tryd.ntmps64
  go_wp2
  go_loop [5, 6] (fun n i => ∃ k f : Nat, k ≤ bs.length ∧ f < 4294967296 ∧ i = .int .i64 k ∧ n = .int .u32 f ∧ fol f (bs.drop k) = fol f0 bs) (fun _ i => bs.length - (intOf i).toNat)
  case atStart => exact ⟨0, f0, Nat.zero_le _, hfl, rfl, rfl, rfl⟩
  case round =>
    obtain ⟨k, f, hk, hfl', rfl, rfl, hg⟩ := hrel
    by_cases hlt : k < bs.length
    · obtain ⟨b, off, rfl, hblt, hcell⟩ := u8s_at hr hlt
      have hd : bs[k] < 256 := hb _ (List.getElem_mem hlt)
      rw [List.drop_eq_getElem_cons hlt] at hg
      generalize bs[k] = d at *
      have hst := stp_lt hfl' hd
      have hg' : fol (stp f d) (bs.drop (k + 1)) = fol f0 bs := hg
      have Hg := Lib.hid hg'
      clear hg hg'
      go_wp2
      go_loop [5, 7, 8] (fun n c j => ∃ i m e : Nat, i ≤ 8 ∧ m < 4294967296 ∧ e < 2 ^ (8 - i) ∧ j = .int .i64 i ∧ c = .int .u8 e ∧ n = .int .u32 m ∧ hvN (8 - i) (m ^^^ e) = stp f d) (fun _ _ j => 8 - (intOf j).toNat)
      case atStart => exact ⟨0, f, d, by omega, hfl', hd, rfl, rfl, rfl, rfl⟩
      case round =>
        obtain ⟨i, m, e, hi, hm, he, rfl, rfl, rfl, hh⟩ := hrel
        have he8 : e < 256 := Nat.lt_of_lt_of_le he (show 2 ^ (8 - i) ≤ 2 ^ 8 from Nat.pow_le_pow_right (by omega) (by omega))
        by_cases hi8 : i < 8
        · have hx := turn_next m e (7 - i)
          rw [show 7 - i + 1 = 8 - i by omega, hh] at hx
          have hlt2 : hv (m ^^^ e % 2) < 4294967296 := hv_lt (xor_lt32 hm (by omega))
          have htn := fun W => turn_any m (e % 2) W hm (Nat.mod_lt _ (by omega))
          generalize hv (m ^^^ e % 2) = m' at *
          have Hx := Lib.hid hx
          have Htn := Lib.hid htn
          have He := Lib.hid he
          have hi8' : (i : Int) < 8 := by omega
          clear hx htn he hh
          go_wp2_with fail
          refine (Htn.out _).mono ?_
          rintro e' w' ⟨rfl, rfl⟩
          go_wp2
          go_round
          case rel => exact ⟨i + 1, m', e / 2, by omega, hlt2, by have := He.out; rw [show 8 - i = 8 - (i + 1) + 1 by omega, Nat.pow_succ] at this; omega, by go_num, by go_num, rfl, by rw [show 8 - (i + 1) = 7 - i by omega]; exact Hx.out.symm⟩
          case measure => simp [intOf]; omega
        · obtain rfl : i = 8 := by omega
          obtain rfl : e = 0 := by simp at he; omega
          rw [Nat.xor_zero] at hh
          have hh' : m = stp f d := hh
          have HH := Lib.hid hh'
          clear hh hh'
          go_wp2
          go_round
          case rel => exact ⟨k + 1, m, by omega, hm, by go_num, rfl, by rw [HH.out]; exact Hg.out⟩
          case measure => simp [intOf]; omega
    · have hdr : bs.drop k = [] := List.drop_eq_nil_of_le (by omega)
      rw [hdr] at hg
      have hres := Hres.out f hfl' hg.symm
      have HH := Lib.hid hres
      clear hres hg hdr
      go_wp2
      go_ret
      exact ⟨ret_int HH.out, rfl⟩
end Go.Proofs.YthhkkiegfcofjaaDoor
