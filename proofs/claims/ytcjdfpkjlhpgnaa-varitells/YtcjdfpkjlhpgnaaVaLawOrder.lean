/- VariOrder's walk. -/
import Derived.Test.YtcjdfpkjlhpgnaaVaLawCut
import Derived.Test.YtcjdfpkjlhpgnaaAppend
import Derived.Deep.QuietTactic
import Derived.BigQuiet
namespace Go.Proofs.Ytcjdfpkjlhpgnaa
open Go.RowKit

theorem ret_bool {b : Bool} (h : b = true) : Ending.returned (.bool b) = .returned (.bool true) := by rw [h]
theorem putL_inj {n m : Nat} (hn : n < 18446744073709551616) (hm : m < 18446744073709551616) (h : putL n = putL m) : n = m := by
  have h1 := getL_put n [] hn
  have h2 := getL_put m [] hm
  rw [h, h2] at h1
  exact (congrArg Prod.fst h1).symm
theorem putL_one {m : Nat} (h : (putL m).length = 1) : m < 128 := by
  rcases Nat.lt_or_ge m 128 with h1 | h1
  · exact h1
  · rw [putL_big (by omega)] at h
    have := putL_pos (m / 128)
    simp only [List.length_cons] at h
    omega
theorem putL_order (n : Nat) : ∀ (m i : Nat), n < 18446744073709551616 → m < 18446744073709551616 → (putL n).length = (putL m).length → i < (putL n).length →
    (∀ j, i < j → (putL n).getD j 0 = (putL m).getD j 0) → (i = 0 ∨ (putL n).getD i 0 ≠ (putL m).getD i 0) → n ≠ m → ((putL n).getD i 0 < (putL m).getD i 0 ↔ n < m) := by
  induction n using Nat.strongRecOn with
  | _ n ih =>
    intro m i hn hm hlen hi hj h0 hne
    by_cases hs : n < 128
    · have hl1 : (putL n).length = 1 := by rw [putL_small hs]; rfl
      have hm1 := putL_one (m := m) (by omega)
      have hi0 : i = 0 := by omega
      subst hi0
      rw [putL_small hs, putL_small hm1]
      simp
    · have hmb : ¬ m < 128 := by
        intro h
        rw [putL_small h, putL_big hs] at hlen
        have := putL_pos (n / 128)
        simp only [List.length_cons, List.length_nil] at hlen
        omega
      rw [putL_big hs, putL_big hmb] at hlen hj h0 ⊢
      rw [putL_big hs] at hi
      simp only [List.length_cons] at hlen hi
      cases i with
      | zero =>
        have htail : putL (n / 128) = putL (m / 128) := by
          apply List.ext_getElem (by omega)
          intro j h1 h2
          have := hj (j + 1) (by omega)
          simpa [h1, h2] using this
        have hd := putL_inj (by omega) (by omega) htail
        simp only [List.getD_cons_zero]
        omega
      | succ i =>
        have hx : (putL (n / 128)).getD i 0 ≠ (putL (m / 128)).getD i 0 := by
          rcases h0 with h | h
          · omega
          · simpa using h
        have hd : n / 128 ≠ m / 128 := by
          intro e
          rw [e] at hx
          exact hx rfl
        have := ih (n / 128) (by omega) (m / 128) i (by omega) (by omega) (by omega) (by omega) (fun j hj' => by
          have := hj (j + 1) (by omega)
          simpa using this) (.inr hx) hd
        simp only [List.getD_cons_succ]
        rw [this]
        omega

set_option maxRecDepth 100000 in
set_option maxHeartbeats 1000000 in
theorem variOrder_walk (w : World) (n : Nat) (hn : n < 18446744073709551616) (m : Nat) (hm : m < 18446744073709551616) :
    Calls Try.prog 8 #[.int .u64 (n : Int), .int .u64 (m : Int)] w fun e w' => e = .returned (.bool true) ∧ Below w.heap.size w w' := by
  have hp := putL_pos n
  have hp10 := putL_len10 n hn
  have hq10 := putL_len10 m hm
  have hord := putL_order n m
  have hnm : n = m → putL n = putL m := fun h => by rw [h]
  have hna := putL_byte n
  have hnb := putL_byte m
  have P1 := Lib.hid (put_form n)
  have P2 := Lib.hid (put_form m)
  generalize putL n = pn at *
  generalize putL m = pm at *
  have Hord := Lib.hid hord
  have Hnm := Lib.hid hnm
  have Hna := Lib.hid hna
  have Hnb := Lib.hid hnb
  clear hord hnm hna hnb
  go_enter Try.func8, Try.ntmps8
  go_wp2_with fail
  refine (awake_any _).mono ?_
  rintro e w1 ⟨rfl, hb⟩
  go_wp2_with fail
  refine (P1.out _ hn).mono ?_
  rintro e w2 ⟨g, cap, rfl, hcap, hg, hlt, hr, hb2⟩
  go_wp2_with fail
  refine (P2.out _ hm).mono ?_
  rintro e w3 ⟨g', cap', rfl, hcap', hg', hlt', hr', hb3⟩
  have hB : Below w.heap.size w w3 := (hb.trans (hb2.mono hb.size)).trans (hb3.mono (Nat.le_trans hb.size hb2.size))
  have hr3 := hr.below hb3
  clear hr hb hb2 hb3
  by_cases hl : pn.length = pm.length
  · have hl1 : ((pn.length : Int) != (pm.length : Int)) = false := by simp [hl]
    by_cases he : n = m
    · have hpp := Hnm.out he
      subst he
      have hcv1 := conv_str (P := Try.prog) w3 _ _ _ Try.underlying23 Try.underlying5 Try.underlying9 _ pn pn.length cap rfl hr3
      have hcv2 := conv_str (P := Try.prog) w3 _ _ _ Try.underlying23 Try.underlying5 Try.underlying9 _ pm pm.length cap' rfl hr'
      have Hl := Lib.hid hl
      subst hpp
      clear hl
      go_wp2
      go_ret
      exact ⟨rfl, hB⟩
    · have hne : ((n : Int) == (m : Int)) = false := by simp; omega
      have Hl := Lib.hid hl
      have hle : pm.length ≤ pn.length := by omega
      have hge : pn.length ≤ pm.length := by omega
      clear hl
      go_wp2
      go_loopw [8] (fun v wr => ∃ (k q : Nat), v = .int .i64 (k : Int) ∧ k < pn.length ∧ wr = w3.drewN q ∧ (∀ j, k < j → pn.getD j 0 = pm.getD j 0)) (fun v _ => (intOf v).toNat)
      case atStart => exact ⟨pn.length - 1, 0, by go_num, by omega, rfl, fun j hj => by rw [getD_out (by omega), getD_out (by omega)]⟩
      case round =>
        obtain ⟨k, q, rfl, hk, rfl, hab⟩ := hrel
        have Hab := Lib.hid hab
        clear hab
        have hca : w3.cell? ⟨g, k, none⟩ = some (.int .u8 ((pn.getD k 0 : Nat) : Int)) := rd_u8 hr3 hk
        have hcb : w3.cell? ⟨g', k, none⟩ = some (.int .u8 ((pm.getD k 0 : Nat) : Int)) := rd_u8 hr' (by omega)
        have hfin := Hord.out k hn hm Hl.out hk Hab.out
        generalize hx : pn.getD k 0 = x at *
        generalize hy : pm.getD k 0 = y at *
        have Hx := Lib.hid hx
        have Hy := Lib.hid hy
        have Hfin := Lib.hid hfin
        clear hx hy hfin
        have hk1 : (k : Int) < (pn.length : Int) := by omega
        have hk2 : (k : Int) < (pm.length : Int) := by omega
        by_cases hk0 : k = 0
        · have hz : decide ((0 : Int) < (k : Int)) = false := by simp; omega
          have hz1 : decide (0 < k) = false := by simp; omega
          have hf : (decide (x < y) == decide (n < m)) = true := by
            have := Hfin.out (.inl hk0) he
            simp [this]
          have HF := Lib.hid hf
          clear hk0 hf
          go_wp2_with fail
          go_quiet (fail)
          go_wp2_with fail
          go_quiet (fail)
          go_wp2
          go_ret
          exact ⟨ret_bool HF.out, below_drewN (below_drewN (below_drewN hB _) _) _⟩
        · have hz : decide ((0 : Int) < (k : Int)) = true := by simp; omega
          have hz1 : decide (0 < k) = true := by simp; omega
          have hz3 : 0 < k := by omega
          have hz2 : (0 : Int) < (k : Int) := by omega
          by_cases hxy : x = y
          · have hq : ((x : Int) == (y : Int)) = true := by simp [hxy]
            have HXY := Lib.hid hxy
            clear hxy
            go_wp2_with fail
            go_quiet (fail)
            go_wp2
            go_roundw
            case rel => exact ⟨k - 1, _, by go_num, by omega, rfl, fun j hj => by
              rcases Nat.lt_or_ge k j with h | h
              · exact Hab.out j h
              · obtain rfl : j = k := by omega
                rw [Hx.out, Hy.out, HXY.out]⟩
            case measure => simp [intOf]; omega
          · have hq : ((x : Int) == (y : Int)) = false := by simp; omega
            have hf : (decide (x < y) == decide (n < m)) = true := by
              have := Hfin.out (.inr hxy) he
              simp [this]
            have HF := Lib.hid hf
            clear hxy hf
            go_wp2_with fail
            go_quiet (fail)
            go_wp2_with fail
            go_quiet (fail)
            go_wp2
            go_ret
            exact ⟨ret_bool HF.out, below_drewN (below_drewN (below_drewN hB _) _) _⟩
  · have hl1 : ((pn.length : Int) != (pm.length : Int)) = true := by simp; omega
    have hne : n ≠ m := fun h => hl (by rw [Hnm.out h])
    have hne1 : ((n : Int) != (m : Int)) = true := by simp; omega
    clear hl
    go_wp2
    go_ret
    exact ⟨rfl, hB⟩
end Go.Proofs.Ytcjdfpkjlhpgnaa
