/- NameDot's walk. -/
import Derived.Test.YteejinngkjgifaaNaAwake
namespace Go.Proofs.Yteejinngkjgifaa
open Go.RowKit

theorem byt_at {s : ByteArray} {k : Nat} (h : k < s.size) : (byt s)[k]'(by simpa using h) = (s[k]'h).toNat := by
  simp only [byt, List.getElem_map, Array.getElem_toList]; rfl
theorem byt_take_succ {s : ByteArray} {k : Nat} (h : k < s.size) : (byt s).take (k + 1) = (byt s).take k ++ [(s[k]'h).toNat] := by
  rw [← byt_at h, List.take_succ_eq_append_getElem]
theorem dots_may {l : List Nat} (h : mayN l = true) : l.count 46 = 0 := List.count_eq_zero.2 (may_nodot h)

set_option maxRecDepth 100000 in
set_option maxHeartbeats 2000000 in
theorem nameDot_walk (w : World) (s : ByteArray) (hs : s.size ≤ maxLen) :
    Calls Try.prog 8 #[.string s] w fun e w' => e = .returned (.bool true) ∧ Below w.heap.size w w' := by
  by_cases h200 : s.size ≤ 200
  · have h200' : decide ((200 : Int) < (s.size : Int)) = false := by simp; omega
    have HS := Lib.hid (fun W => split_any s W hs)
    have HM := Lib.hid (fun W => may_any s W)
    have h1 := dots_may (l := byt s)
    have h2 := can_dots (s := byt s)
    have H1 := Lib.hid h1
    have H2 := Lib.hid h2
    clear h1 h2
    generalize hg : canN (byt s) = can at *
    generalize hg2 : mayN (byt s) = may at *
    clear hg hg2
    go_enter Try.func8, Try.ntmps8
    go_wp2_with fail
    refine (awake_any _).mono ?_
    rintro e w1 ⟨rfl, hB1⟩
    go_wp2
    go_loop [4, 5] (fun n i => ∃ k m : Nat, k ≤ s.size ∧ i = .int .i64 (k : Int) ∧ n = .int .i64 (m : Int) ∧ m ≤ k ∧ Hid (m = ((byt s).take k).count 46)) (fun _ i => s.size - (intOf i).toNat)
    case atStart => exact ⟨0, 0, by omega, rfl, rfl, by omega, by show _ = _; simp⟩
    case round =>
      obtain ⟨k, m, hk, rfl, rfl, hm, hc⟩ := hrel
      by_cases hlt : k < s.size
      · have hk1 : (k : Int) < (s.size : Int) := by omega
        have hsucc := byt_take_succ hlt
        by_cases h46 : (s[k]'hlt).toNat = 46
        · have h46' : (((s[k]'hlt).toNat : Int) == 46) = true := by rw [h46]; rfl
          rw [h46] at hsucc
          have hc2 : m + 1 = ((byt s).take (k + 1)).count 46 := by rw [hsucc, List.count_append, ← hc.out]; simp
          have Hc2 := Lib.hid hc2
          clear hsucc hc2 hc h46
          go_wp2
          go_round
          case rel => exact ⟨k + 1, m + 1, by omega, by go_num, by go_num, by omega, Hc2⟩
          case measure => simp [intOf]; omega
        · have h46' : (((s[k]'hlt).toNat : Int) == 46) = false := by simp; omega
          have hc2 : m = ((byt s).take (k + 1)).count 46 := by rw [hsucc, List.count_append, ← hc.out]; simp [h46]
          have Hc2 := Lib.hid hc2
          clear hsucc hc2 hc h46
          go_wp2
          go_round
          case rel => exact ⟨k + 1, m, by omega, by go_num, rfl, by omega, Hc2⟩
          case measure => simp [intOf]; omega
      · obtain rfl : k = s.size := by omega
        have hc' := hc.out
        rw [List.take_of_length_le (by simp)] at hc'
        rw [← hc'] at H1 H2
        clear hc hc'
        go_wp2_with fail
        refine (HS.out _).mono ?_
        rintro e w2 ⟨x, y, rfl, _, _, hB2⟩
        go_wp2_with fail
        refine (HM.out _).mono ?_
        rintro e w3 ⟨rfl, hB3⟩
        have hB := (hB1.trans (hB2.mono hB1.size)).trans (hB3.mono (Nat.le_trans hB1.size hB2.size))
        clear hB1 hB2 hB3
        have h1 : may = true → ((m : Int) == 0) = true := fun h => by rw [H1.out h]; rfl
        have h2 : can = true → ((m : Int) == 1) = true := fun h => by rw [H2.out h]; rfl
        cases may
        · cases can
          · go_wp2
            go_ret
            exact ⟨rfl, hB⟩
          · have h2' := h2 rfl
            go_wp2
            go_ret
            exact ⟨rfl, hB⟩
        · have h1' := h1 rfl
          cases can
          · go_wp2
            go_ret
            exact ⟨rfl, hB⟩
          · have h2' := h2 rfl
            go_wp2
            go_ret
            exact ⟨rfl, hB⟩
  · have h200' : decide ((200 : Int) < (s.size : Int)) = true := by simp; omega
    go_enter Try.func8, Try.ntmps8
    go_wp2_with fail
    refine (awake_any _).mono ?_
    rintro e w1 ⟨rfl, hB1⟩
    go_wp2
    go_ret
    exact ⟨rfl, hB1⟩
end Go.Proofs.Yteejinngkjgifaa
