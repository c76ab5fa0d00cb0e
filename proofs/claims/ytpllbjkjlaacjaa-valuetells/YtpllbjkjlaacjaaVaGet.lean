/- The contract of vari.Get: at every slice of bytes it tells what 'getL' tells, and changes nothing. -/
import Derived.Test.YtpllbjkjlaacjaaWords
import Derived.Test.YtpllbjkjlaacjaaVaPlain
namespace Go.Proofs.Ytpllbjkjlaacjaa
open Go.RowKit


theorem pow27 (k : Nat) : (2 : Int) ^ (7 * k) = ((128 ^ k : Nat) : Int) := by
  rw [Int.natCast_pow, Int.pow_mul]; rfl
theorem shl_step (acc d k : Nat) (h : acc + d % 128 * 128 ^ k < 18446744073709551616) :
    IntKind.u64.wrap ((acc : Int) + IntKind.u64.wrap ((d : Int) % 128 * 2 ^ (7 * k))) = ((acc + d % 128 * 128 ^ k : Nat) : Int) := by
  have e : (d : Int) % 128 * 2 ^ (7 * k) = ((d % 128 * 128 ^ k : Nat) : Int) := by
    rw [pow27, Int.natCast_mul]; rfl
  rw [e, IntKind.wrap_u64, IntKind.wrap_u64]
  generalize d % 128 * 128 ^ k = x at *
  omega
theorem acc_lt (acc d k : Nat) (h : acc < 128 ^ k) (hk : k ≤ 8) : acc + d % 128 * 128 ^ k < 128 ^ (k + 1) ∧ 128 ^ (k + 1) ≤ 9223372036854775808 := by
  constructor
  · have h2 : d % 128 * 128 ^ k ≤ 127 * 128 ^ k := Nat.mul_le_mul_right _ (by omega)
    rw [Nat.pow_succ]; omega
  · have e9 : (128 : Nat) ^ 9 = 9223372036854775808 := by decide
    rw [← e9]
    exact Nat.pow_le_pow_right (by omega) (by omega)
theorem ret_two {k l : IntKind} {a b c d : Int} (h : a = b) (h2 : c = d) : Ending.returned (.tuple #[.int k a, .int l c]) = .returned (.tuple #[.int k b, .int l d]) := by rw [h, h2]

set_option maxRecDepth 100000 in
set_option maxHeartbeats 400000 in
theorem vget_any (A : Option Addr) (c : Nat) (bs : List Nat) (w : World) (hb : ∀ x ∈ bs, x < 256) (hr : Rd w A (u8s bs)) (hlen : bs.length ≤ 140737488355328) :
    Calls Try.prog 28 #[.slice A bs.length c] w fun e w' => e = .returned (.tuple #[.int .u64 ((getL bs).1 : Int), .int .i64 ((getL bs).2 : Int)]) ∧ w = w' := by
  go_enter Try.func28, Try.ntmps28
  go_wp2
  go_loop [4, 9] (fun n i => ∃ k acc : Nat, k ≤ bs.length ∧ k ≤ 9 ∧ acc < 128 ^ k ∧ i = .int .i64 k ∧ n = .int .u64 acc ∧ getGo k acc (bs.drop k) = getL bs) (fun _ i => bs.length - (intOf i).toNat)
  case atStart => exact ⟨0, 0, Nat.zero_le _, by omega, by simp, rfl, rfl, rfl⟩
  case round =>
    obtain ⟨k, acc, hk, hk9, hacc, rfl, rfl, hg⟩ := hrel
    by_cases hlt : k < bs.length
    · obtain ⟨b, off, rfl, hblt, hcell⟩ := u8s_at hr hlt
      have hd : bs[k] < 256 := hb _ (List.getElem_mem hlt)
      rw [List.drop_eq_getElem_cons hlt] at hg
      generalize bs[k] = d at *
      rw [getGo] at hg
      by_cases h9 : k = 9
      · subst h9
        have Hg := Lib.hid hg
        clear hg
        go_wp2
        · go_ret2
          have := Hg.out
          rw [if_pos ⟨trivial, by omega⟩] at this
          exact ⟨ret_two (by rw [← this]; rfl) (by rw [← this]; rfl), rfl⟩
        · go_ret2
          have := Hg.out
          rw [if_neg (by omega), if_neg (by omega), if_pos (by omega)] at this
          exact ⟨ret_two (by rw [← this]; rfl) (by rw [← this]; rfl), rfl⟩
        · go_ret2
          have := Hg.out
          rw [if_neg (by omega), if_neg (by omega), if_neg (by omega)] at this
          refine ⟨ret_two ?_ (by rw [← this]; rfl), rfl⟩
          rw [← this]
          show (acc : Int) + (d : Int) % 128 * 9223372036854775808 = ((acc + d % 128 * 128 ^ 9 : Nat) : Int)
          rw [show (128 : Nat) ^ 9 = 9223372036854775808 from by decide]
          omega
      · rw [if_neg (by omega)] at hg
        have hs := acc_lt acc d k hacc (by omega)
        have hsh := shl_step acc d k (by omega)
        have Hg := Lib.hid hg
        have Hs := Lib.hid hsh
        clear hg hsh
        go_wp2
        · have := Hg.out
          rw [if_pos (by omega)] at this
          refine ⟨⟨k + 1, acc + d % 128 * 128 ^ k, by omega, by omega, hs.1, by go_num, by rw [Hs.out], this⟩, ?_⟩
          simp [intOf]; omega
        · go_ret2
          have := Hg.out
          rw [if_neg (by omega), if_pos (by omega)] at this
          exact ⟨ret_two (by rw [← this]; rfl) (by rw [← this]; rfl), rfl⟩
        · go_ret2
          have := Hg.out
          rw [if_neg (by omega), if_neg (by omega)] at this
          refine ⟨ret_two ?_ (by rw [← this]; rfl), rfl⟩
          rw [← this]
          have hd0 : d = 0 := by assumption
          have := Hs.out
          subst hd0
          simpa using this
        · go_ret2
          have := Hg.out
          rw [if_neg (by omega), if_neg (by omega)] at this
          refine ⟨ret_two ?_ (by rw [← this]; rfl), rfl⟩
          rw [← this]; exact Hs.out
    · have : bs.drop k = [] := List.drop_eq_nil_of_le (by omega)
      rw [this] at hg
      have Hg := Lib.hid hg
      clear hg this
      go_wp2
      go_ret2
      exact ⟨ret_two (by rw [← Hg.out]; rfl) (by rw [← Hg.out]; rfl), rfl⟩
theorem get_len (A : Option Addr) (c n : Nat) (bs : List Nat) (w : World) (hn : bs.length = n) (hb : ∀ x ∈ bs, x < 256) (hr : Rd w A (u8s bs)) (hlen : n ≤ 140737488355328) :
    Calls Try.prog 28 #[.slice A n c] w fun e w' => e = .returned (.tuple #[.int .u64 ((getL bs).1 : Int), .int .i64 ((getL bs).2 : Int)]) ∧ w = w' := by
  subst hn
  exact vget_any A c bs w hb hr hlen
end Go.Proofs.Ytpllbjkjlaacjaa
