/- The contract of the document's own 'Same' at two lists that are the same; and rows of the call's own by their form. -/
import Derived.Test.YtcjdfpkjlhpgnaaAppend
import Derived.Deep.QuietTactic
import Derived.BigQuiet
namespace Go.Proofs.Ytcjdfpkjlhpgnaa
open Go.RowKit

theorem own_below {w w' : World} {base e n : Nat} {v : Value} {xs : List Value} (h : w.ownsRow base e 1 v n xs) (hb : Below w.heap.size w w') : w'.ownsRow base e 1 v n xs :=
  h.kept (row := none) ⟨hb.os, hb.tape, hb.output, hb.size, fun i hi _ => hb.block i hi⟩ (by
    rcases h.2 with ⟨rfl, _⟩ | ⟨g, cap, cur, rfl, _⟩
    · exact .inl rfl
    · exact .inr (by simp [Value.ownBlock]))
theorem own_slice {w : World} {base e n : Nat} {v : Value} {xs : List Value} (h : w.ownsRow base e 1 v n xs) : ∃ A c, v = .slice A n c ∧ n ≤ c ∧ Rd w A xs ∧ (0 < n → ∃ g, A = some ⟨g, 0, none⟩) := by
  rcases h.2 with ⟨rfl, h0⟩ | ⟨g, cap, cur, rfl, _, _, hnc, _⟩
  · subst h0
    exact ⟨none, 0, rfl, Nat.le_refl _, .inl (List.eq_nil_of_length_eq_zero (by simpa using h.1)), fun h => by omega⟩
  · exact ⟨_, cap, rfl, hnc, Rd.own h, fun _ => ⟨g, rfl⟩⟩
theorem u64_at {w : World} {A : Option Addr} {bs : List Nat} {k : Nat} (h : Rd w A (u64s bs)) (hk : k < bs.length) :
    ∃ b off, A = some ⟨b, off, none⟩ ∧ b < w.heap.size ∧ w.cell? ⟨b, off + k, none⟩ = some (.int .u64 ((bs.getD k 0 : Nat) : Int)) := by
  obtain ⟨b, off, rfl, hlt, hc⟩ := h.at (k := k) (by simpa using hk)
  refine ⟨b, off, rfl, hlt, ?_⟩
  rw [hc k _ (u64s_get hk)]
  simp [hk]

set_option maxRecDepth 100000 in
set_option maxHeartbeats 400000 in
theorem same_yes (A B : Option Addr) (c d n : Nat) (xs : List Nat) (w : World) (hn : xs.length = n) (hlen : n ≤ 1048576) (ha : Rd w A (u64s xs)) (hb : Rd w B (u64s xs)) :
    Calls Try.prog 15 #[.slice A n c, .slice B n d] w fun e w' => e = .returned (.bool true) ∧ ∃ q, w' = w.drewN q := by
  subst hn
  go_enter Try.func15, Try.ntmps15
  go_wp2
  go_loopw [5] (fun v wr => ∃ (j q : Nat), v = .int .i64 (j : Int) ∧ j ≤ xs.length ∧ wr = w.drewN q) (fun v _ => xs.length - (intOf v).toNat)
  case atStart => exact ⟨0, 0, rfl, Nat.zero_le _, rfl⟩
  case round =>
    obtain ⟨j, q, rfl, hj, rfl⟩ := hrel
    by_cases hjl : j < xs.length
    · obtain ⟨g1, o1, rfl, _, hc1⟩ := u64_at ha hjl
      obtain ⟨g2, o2, rfl, _, hc2⟩ := u64_at hb hjl
      generalize xs.getD j 0 = x at *
      have hj1 : (j : Int) < (xs.length : Int) := by omega
      go_wp2_with fail
      go_quiet (fail)
      go_wp2
      go_roundw
      case rel => exact ⟨j + 1, _, by go_num, by omega, rfl⟩
      case measure => simp [intOf]; omega
    · go_wp2
      go_ret
      exact ⟨rfl, q, rfl⟩
end Go.Proofs.Ytcjdfpkjlhpgnaa
