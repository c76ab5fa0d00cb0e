/- VariCut's walk. -/
import Derived.Test.YtcjdfpkjlhpgnaaVaAwake
namespace Go.Proofs.Ytcjdfpkjlhpgnaa
open Go.RowKit

/-- vari.Put by its form: an address, cells, and that it is the call's own. -/
theorem put_form (N : Nat) (w : World) (hN : N < 18446744073709551616) :
    Calls Try.prog 16 #[.int .u64 (N : Int)] w fun e w' => ∃ g cap, e = .returned (.slice (some ⟨g, 0, none⟩) (putL N).length cap) ∧ (putL N).length ≤ cap ∧ w.heap.size ≤ g ∧ g < w'.heap.size ∧ Rd w' (some ⟨g, 0, none⟩) (u8s (putL N)) ∧ Below w.heap.size w w' :=
  (put_any N w hN).mono fun e w' ⟨v, he, hown, hb⟩ => by
    obtain ⟨g, cap, rfl, hg, hlt, hcap, hc⟩ := own_open hown (putL_pos N)
    exact ⟨g, cap, he, hcap, hg, hlt, Rd.own hown, hb⟩

set_option maxRecDepth 100000 in
set_option maxHeartbeats 1000000 in
theorem variCut_walk (w : World) (n : Nat) (hn : n < 18446744073709551616) (less : Nat) (hl : less < 18446744073709551616) (k : Int) (k0 : -9223372036854775808 ≤ k) (k1 : k ≤ 9223372036854775807) :
    Calls Try.prog 5 #[.int .u64 (n : Int), .int .u64 (less : Int), .int .i64 k] w fun e w' => e = .returned (.bool true) ∧ Below w.heap.size w w' := by
  have hp := putL_pos n
  have hp10 := putL_len10 n hn
  have hq10 := putL_len10 less hl
  have hmono : less ≤ n → (putL less).length ≤ (putL n).length := putL_mono less n
  have hcut : ∀ j, j < (putL n).length → getL ((putL n).take j) = (0, 0) := fun j hj => getL_cut n j hn hj
  have hby : ∀ x ∈ putL n, x < 256 := putL_byte n
  have P1 := Lib.hid (put_form n)
  have P2 := Lib.hid (put_form less)
  have Hcut := Lib.hid hcut
  generalize hP : putL n = pn at *
  generalize hQ : putL less = pq at *
  clear hcut hP hQ
  have hnl : ¬ (less ≤ n) ∨ pq.length ≤ pn.length := by
    by_cases h : less ≤ n
    · exact .inr (hmono h)
    · exact .inl h
  clear hmono
  go_enter Try.func5, Try.ntmps5
  go_wp2_with fail
  refine (awake_any _).mono ?_
  rintro e w1 ⟨rfl, hb⟩
  go_wp2_with fail
  refine (P1.out _ hn).mono ?_
  rintro e w2 ⟨g, cap, rfl, hcap, hg, hlt, hr, hb2⟩
  go_wp2_with fail
  refine (P2.out _ hl).mono ?_
  rintro e w3 ⟨g', cap', rfl, hcap', hg', hlt', hr', hb3⟩
  have hB : Below w.heap.size w w3 := (hb.trans (hb2.mono hb.size)).trans (hb3.mono (Nat.le_trans hb.size hb2.size))
  have hr3 := hr.below hb3
  clear hr hr' hb hb2 hb3
  rcases hnl with hle | hle
  all_goals
    by_cases hk : k < 0
    · go_wp2
      all_goals
        go_ret
        exact ⟨rfl, hB⟩
    · obtain ⟨j, rfl⟩ := Int.eq_ofNat_of_zero_le (a := k) (by omega)
      by_cases hj : j < pn.length
      · have hget := get_any (some ⟨g, 0, none⟩) cap (pn.take j) w3 (fun x hx => hby x (List.mem_of_mem_take hx)) (by rw [← u8s_take]; exact hr3.take j) (by rw [List.length_take]; omega)
        rw [Hcut.out j hj, List.length_take, Nat.min_eq_left (by omega)] at hget
        have Hget := Lib.hid hget
        clear hget hr3 hby
        have hjc : j ≤ cap := by omega
        go_wp2_with fail
        all_goals
          refine Hget.out.mono ?_
          rintro e w4 ⟨rfl, rfl⟩
          go_wp2
          go_ret
          exact ⟨rfl, hB⟩
      · go_wp2
        all_goals
          go_ret
          exact ⟨rfl, hB⟩
end Go.Proofs.Ytcjdfpkjlhpgnaa
