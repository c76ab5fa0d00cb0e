/- NameJoin's walk. -/
import Derived.Test.YteejinngkjgifaaNaAwake
namespace Go.Proofs.Yteejinngkjgifaa
open Go.RowKit

theorem join_yes {a b : ByteArray} (ha : mayN (byt a) = true) (hb : mayN (byt b) = true) : ∃ j : ByteArray, j.toList.isEmpty = false ∧
    (∀ W, Calls Try.prog 18 #[.string a, .string b] W fun e w' => e = .returned (.string j) ∧ Below W.heap.size W w') ∧
    (∀ W, Calls Try.prog 10 #[.string j] W fun e w' => e = .returned (.tuple #[.string a, .string b, .bool true]) ∧ Below W.heap.size W w') := by
  have hj : byt (a ++ ⟨#[46]⟩ ++ b) = byt a ++ 46 :: byt b := by rw [byt_append, byt_append, byt_dot, List.append_assoc]; rfl
  have h1 := may_size ha
  have h2 := may_size hb
  obtain ⟨hc, hs⟩ := split_join ha hb
  refine ⟨a ++ ⟨#[46]⟩ ++ b, ?_, fun W => ?_, fun W => ?_⟩
  · rw [str_empty, hj]; cases byt a <;> rfl
  · refine (join_any a b W).mono fun e w' ⟨t, he, ht, hB⟩ => ⟨?_, hB⟩
    rw [joinN, if_pos ⟨ha, hb⟩, ← hj] at ht
    rw [he, byt_inj ht]
  · refine (split_any _ W ?_).mono fun e w' ⟨x, y, he, hx, hy, hB⟩ => ⟨?_, hB⟩
    · have := congrArg List.length hj
      rw [byt_length, List.length_append, List.length_cons, byt_length, byt_length] at this
      simp only [maxLen]; omega
    · rw [hj, hs] at hx hy
      rw [he, hj, hc, byt_inj hx, byt_inj hy]
theorem join_no {a b : ByteArray} (h : ¬ (mayN (byt a) = true ∧ mayN (byt b) = true)) (W : World) :
    Calls Try.prog 18 #[.string a, .string b] W fun e w' => e = .returned (.string ⟨#[]⟩) ∧ Below W.heap.size W w' := by
  refine (join_any a b W).mono fun e w' ⟨t, he, ht, hB⟩ => ⟨?_, hB⟩
  rw [joinN, if_neg h] at ht
  rw [he, byt_inj (ht.trans (show [] = byt ⟨#[]⟩ from rfl))]
theorem split_no {s : ByteArray} (hs : s.size ≤ maxLen) (h : canN (byt s) = false) (W : World) :
    Calls Try.prog 10 #[.string s] W fun e w' => e = .returned (.tuple #[.string ⟨#[]⟩, .string ⟨#[]⟩, .bool false]) ∧ Below W.heap.size W w' := by
  refine (split_any s W hs).mono fun e w' ⟨x, y, he, hx, hy, hB⟩ => ⟨?_, hB⟩
  have e2 : splitN (byt s) = ([], []) := by rw [splitN, h]; rfl
  rw [e2] at hx hy
  rw [he, h, byt_inj (hx.trans (show [] = byt ⟨#[]⟩ from rfl)), byt_inj (hy.trans (show [] = byt ⟨#[]⟩ from rfl))]
theorem split_yes {s : ByteArray} (hs : s.size ≤ maxLen) (h : canN (byt s) = true) (W : World) :
    Calls Try.prog 10 #[.string s] W fun e w' => ∃ p q, e = .returned (.tuple #[.string p, .string q, .bool true]) ∧
      (∀ W, Calls Try.prog 18 #[.string p, .string q] W fun e w' => e = .returned (.string s) ∧ Below W.heap.size W w') ∧ Below W.heap.size W w' := by
  refine (split_any s W hs).mono fun e w' ⟨x, y, he, hx, hy, hB⟩ => ⟨x, y, by rw [he, h], fun W => ?_, hB⟩
  refine (join_any x y W).mono fun e w' ⟨t, he, ht, hB⟩ => ⟨?_, hB⟩
  rw [hx, hy, (join_split h).2.2.2] at ht
  rw [he, byt_inj ht]

set_option maxRecDepth 100000 in
set_option maxHeartbeats 4000000 in
theorem nameJoin_walk (w : World) (a : ByteArray) (_hsa : a.size ≤ maxLen) (b : ByteArray) (_hsb : b.size ≤ maxLen) (s : ByteArray) (hs : s.size ≤ maxLen) :
    Calls Try.prog 5 #[.string a, .string b, .string s] w fun e w' => e = .returned (.bool true) ∧ Below w.heap.size w w' := by
  by_cases ha2 : a.size ≤ 200
  rotate_left
  · have ha' : decide ((200 : Int) < (a.size : Int)) = true := by simp; omega
    go_enter Try.func5, Try.ntmps5
    go_wp2_with fail
    refine (awake_any _).mono ?_
    rintro e w1 ⟨rfl, hB⟩
    go_wp2
    go_ret
    exact ⟨rfl, hB⟩
  have ha' : decide ((200 : Int) < (a.size : Int)) = false := by simp; omega
  by_cases hb2 : b.size ≤ 200
  rotate_left
  · have hb' : decide ((200 : Int) < (b.size : Int)) = true := by simp; omega
    go_enter Try.func5, Try.ntmps5
    go_wp2_with fail
    refine (awake_any _).mono ?_
    rintro e w1 ⟨rfl, hB⟩
    go_wp2
    go_ret
    exact ⟨rfl, hB⟩
  have hb' : decide ((200 : Int) < (b.size : Int)) = false := by simp; omega
  by_cases hs2 : s.size ≤ 200
  rotate_left
  · have hs' : decide ((200 : Int) < (s.size : Int)) = true := by simp; omega
    go_enter Try.func5, Try.ntmps5
    go_wp2_with fail
    refine (awake_any _).mono ?_
    rintro e w1 ⟨rfl, hB⟩
    go_wp2
    go_ret
    exact ⟨rfl, hB⟩
  have hs' : decide ((200 : Int) < (s.size : Int)) = false := by simp; omega
  have H2 : (Hid (∀ W, Calls Try.prog 10 #[.string s] W fun e w' => ∃ p q, e = .returned (.tuple #[.string p, .string q, .bool true]) ∧
      (∀ W, Calls Try.prog 18 #[.string p, .string q] W fun e w' => e = .returned (.string s) ∧ Below W.heap.size W w') ∧ Below W.heap.size W w')) ∨
      Hid (∀ W, Calls Try.prog 10 #[.string s] W fun e w' => e = .returned (.tuple #[.string ⟨#[]⟩, .string ⟨#[]⟩, .bool false]) ∧ Below W.heap.size W w') := by
    cases h : canN (byt s)
    · exact .inr (split_no hs h)
    · exact .inl (split_yes hs h)
  have HA := Lib.hid (fun W => may_any a W)
  have HB := Lib.hid (fun W => may_any b W)
  have HE := Lib.hid (split_no (s := ⟨#[]⟩) (by decide) rfl)
  by_cases hab : mayN (byt a) = true ∧ mayN (byt b) = true
  · obtain ⟨j, hje, hJ, hS⟩ := join_yes hab.1 hab.2
    rw [hab.1] at HA
    rw [hab.2] at HB
    have HJ := Lib.hid hJ
    have HS := Lib.hid hS
    clear hJ hS hab HE
    go_enter Try.func5, Try.ntmps5
    go_wp2_with fail
    refine (awake_any _).mono ?_
    rintro e w1 ⟨rfl, hB⟩
    go_wp2_with fail
    refine (HJ.out _).mono ?_
    rintro e w2 ⟨rfl, hBn⟩
    have hB' := hB.trans (hBn.mono hB.size)
    clear hB hBn
    have hB := hB'
    clear hB'
    go_wp2_with fail
    refine (HS.out _).mono ?_
    rintro e w3 ⟨rfl, hBn⟩
    have hB' := hB.trans (hBn.mono hB.size)
    clear hB hBn
    have hB := hB'
    clear hB'
    go_wp2_with fail
    refine (HA.out _).mono ?_
    rintro e w4 ⟨rfl, hBn⟩
    have hB' := hB.trans (hBn.mono hB.size)
    clear hB hBn
    have hB := hB'
    clear hB'
    go_wp2_with fail
    refine (HB.out _).mono ?_
    rintro e w5 ⟨rfl, hBn⟩
    have hB' := hB.trans (hBn.mono hB.size)
    clear hB hBn
    have hB := hB'
    clear hB'
    rcases H2 with HY | HN
    · skip
      go_wp2_with fail
      refine (HY.out _).mono ?_
      rintro e wa ⟨p, q, rfl, hj, hBa⟩
      have hB' := hB.trans (hBa.mono hB.size)
      clear hB hBa
      have hJ := Lib.hid hj
      clear hj
      go_wp2_with fail
      refine (hJ.out _).mono ?_
      rintro e wb ⟨rfl, hBb⟩
      go_wp2
      go_ret
      exact ⟨rfl, hB'.trans (hBb.mono hB'.size)⟩
    · skip
      go_wp2_with fail
      refine (HN.out _).mono ?_
      rintro e wa ⟨rfl, hBa⟩
      go_wp2
      go_ret
      exact ⟨rfl, hB.trans (hBa.mono hB.size)⟩
  · have HJ := Lib.hid (join_no hab)
    cases hma : mayN (byt a)
    · rw [hma] at HA
      clear hab hma HB
      go_enter Try.func5, Try.ntmps5
      go_wp2_with fail
      refine (awake_any _).mono ?_
      rintro e w1 ⟨rfl, hB⟩
      go_wp2_with fail
      refine (HJ.out _).mono ?_
      rintro e w2 ⟨rfl, hBn⟩
      have hB' := hB.trans (hBn.mono hB.size)
      clear hB hBn
      have hB := hB'
      clear hB'
      go_wp2_with fail
      refine (HE.out _).mono ?_
      rintro e w3 ⟨rfl, hBn⟩
      have hB' := hB.trans (hBn.mono hB.size)
      clear hB hBn
      have hB := hB'
      clear hB'
      go_wp2_with fail
      refine (HA.out _).mono ?_
      rintro e w4 ⟨rfl, hBn⟩
      have hB' := hB.trans (hBn.mono hB.size)
      clear hB hBn
      have hB := hB'
      clear hB'
      rcases H2 with HY | HN
      · skip
        go_wp2_with fail
        refine (HY.out _).mono ?_
        rintro e wa ⟨p, q, rfl, hj, hBa⟩
        have hB' := hB.trans (hBa.mono hB.size)
        clear hB hBa
        have hJ := Lib.hid hj
        clear hj
        go_wp2_with fail
        refine (hJ.out _).mono ?_
        rintro e wb ⟨rfl, hBb⟩
        go_wp2
        go_ret
        exact ⟨rfl, hB'.trans (hBb.mono hB'.size)⟩
      · skip
        go_wp2_with fail
        refine (HN.out _).mono ?_
        rintro e wa ⟨rfl, hBa⟩
        go_wp2
        go_ret
        exact ⟨rfl, hB.trans (hBa.mono hB.size)⟩
    · have hmb : mayN (byt b) = false := by
        cases h : mayN (byt b)
        · rfl
        · exact absurd ⟨hma, h⟩ hab
      rw [hma] at HA
      rw [hmb] at HB
      clear hab hma hmb
      go_enter Try.func5, Try.ntmps5
      go_wp2_with fail
      refine (awake_any _).mono ?_
      rintro e w1 ⟨rfl, hB⟩
      go_wp2_with fail
      refine (HJ.out _).mono ?_
      rintro e w2 ⟨rfl, hBn⟩
      have hB' := hB.trans (hBn.mono hB.size)
      clear hB hBn
      have hB := hB'
      clear hB'
      go_wp2_with fail
      refine (HE.out _).mono ?_
      rintro e w3 ⟨rfl, hBn⟩
      have hB' := hB.trans (hBn.mono hB.size)
      clear hB hBn
      have hB := hB'
      clear hB'
      go_wp2_with fail
      refine (HA.out _).mono ?_
      rintro e w4 ⟨rfl, hBn⟩
      have hB' := hB.trans (hBn.mono hB.size)
      clear hB hBn
      have hB := hB'
      clear hB'
      go_wp2_with fail
      refine (HB.out _).mono ?_
      rintro e w5 ⟨rfl, hBn⟩
      have hB' := hB.trans (hBn.mono hB.size)
      clear hB hBn
      have hB := hB'
      clear hB'
      rcases H2 with HY | HN
      · skip
        go_wp2_with fail
        refine (HY.out _).mono ?_
        rintro e wa ⟨p, q, rfl, hj, hBa⟩
        have hB' := hB.trans (hBa.mono hB.size)
        clear hB hBa
        have hJ := Lib.hid hj
        clear hj
        go_wp2_with fail
        refine (hJ.out _).mono ?_
        rintro e wb ⟨rfl, hBb⟩
        go_wp2
        go_ret
        exact ⟨rfl, hB'.trans (hBb.mono hB'.size)⟩
      · skip
        go_wp2_with fail
        refine (HN.out _).mono ?_
        rintro e wa ⟨rfl, hBa⟩
        go_wp2
        go_ret
        exact ⟨rfl, hB.trans (hBa.mono hB.size)⟩
end Go.Proofs.Yteejinngkjgifaa
