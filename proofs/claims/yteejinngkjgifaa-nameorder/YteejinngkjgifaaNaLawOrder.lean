/- NameOrder's walk. -/
import Derived.Test.YteejinngkjgifaaNaAwake
namespace Go.Proofs.Yteejinngkjgifaa
open Go.RowKit

theorem order_three {a b : ByteArray} (ha : mayN (byt a) = true) (hb : mayN (byt b) = true) :
    (lexN (sgn (byt a)) (sgn (byt b)) = true ∧ lexN (sgn (byt b)) (sgn (byt a)) = false ∧ (a.toList == b.toList) = false) ∨
    (lexN (sgn (byt a)) (sgn (byt b)) = false ∧ lexN (sgn (byt b)) (sgn (byt a)) = true ∧ (a.toList == b.toList) = false) ∨
    (lexN (sgn (byt a)) (sgn (byt b)) = false ∧ lexN (sgn (byt b)) (sgn (byt a)) = false ∧ (a.toList == b.toList) = true) := by
  rw [str_beq]
  by_cases h : byt a = byt b
  · rw [h, lex_self, decide_eq_true rfl]; simp
  · rw [decide_eq_false h]
    rcases lex_total _ _ (fun e => h (may_inj ha hb e)) with h1 | h1
    · exact .inl ⟨h1, lex_not_both _ _ h1, rfl⟩
    · exact .inr (.inl ⟨lex_not_both _ _ h1, h1, rfl⟩)

set_option maxRecDepth 100000 in
set_option maxHeartbeats 4000000 in
theorem nameOrder_walk (w : World) (a : ByteArray) (hsa : a.size ≤ maxLen) (b : ByteArray) (hsb : b.size ≤ maxLen) (c : ByteArray) (hsc : c.size ≤ maxLen) :
    Calls Try.prog 4 #[.string a, .string b, .string c] w fun e w' => e = .returned (.bool true) ∧ Below w.heap.size w w' := by
  have HA := Lib.hid (fun W => may_any a W)
  have HB := Lib.hid (fun W => may_any b W)
  have HC := Lib.hid (fun W => may_any c W)
  have L1 := Lib.hid (fun W => less_any a b W hsb)
  have L2 := Lib.hid (fun W => less_any b a W hsa)
  have L3 := Lib.hid (fun W => less_any b c W hsc)
  have L4 := Lib.hid (fun W => less_any a c W hsc)
  have H3 := Lib.hid (order_three (a := a) (b := b))
  have HT := Lib.hid (lex_trans (sgn (byt a)) (sgn (byt b)) (sgn (byt c)))
  have HL : Hid (mayN (byt a) = true → mayN (byt c) = true → c.size ≤ 200 → ∀ W, Calls Try.prog 17 #[.string a, .string (a ++ c)] W fun e w' => e = .returned (.bool true) ∧ Below W.heap.size W w') := fun h1 h2 h3 W => by
    have hz := may_size h1
    refine (less_any a (a ++ c) W (by simp only [maxLen, ByteArray.size_append]; omega)).mono fun e w' ⟨he, hB⟩ => ⟨?_, hB⟩
    rw [byt_append, may_sgn h1, lex_more _ _ (nameS_ok h2).1] at he
    exact he
  have HZ : Hid (mayN (byt a) = true → a.size ≤ 16) := may_size
  generalize mayN (byt a) = ma at *
  generalize mayN (byt b) = mb at *
  generalize mayN (byt c) = mc at *
  generalize lexN (sgn (byt a)) (sgn (byt b)) = x at *
  generalize lexN (sgn (byt b)) (sgn (byt a)) = y at *
  generalize lexN (sgn (byt b)) (sgn (byt c)) = z at *
  generalize lexN (sgn (byt a)) (sgn (byt c)) = u at *
  go_enter Try.func4, Try.ntmps4
  go_wp2_with fail
  refine (awake_any _).mono ?_
  rintro e w1 ⟨rfl, hB⟩
  go_wp2_with fail
  refine (HA.out _).mono ?_
  rintro e w2 ⟨rfl, hB2⟩
  have hB2' := hB.trans (hB2.mono hB.size)
  clear hB hB2
  cases ma
  · go_wp2
    go_ret
    exact ⟨rfl, hB2'⟩
  go_wp2_with fail
  refine (HB.out _).mono ?_
  rintro e w3 ⟨rfl, hB3⟩
  have hB3' := hB2'.trans (hB3.mono hB2'.size)
  clear hB2' hB3
  cases mb
  · go_wp2
    go_ret
    exact ⟨rfl, hB3'⟩
  by_cases h200 : c.size ≤ 200
  · have h200' : decide ((200 : Int) < (c.size : Int)) = false := by simp; omega
    have hz := HZ.out (by simp)
    have h3 := H3.out (by simp) (by simp)
    have Hl := Lib.hid (fun h => HL.out (by simp) h h200)
    clear HL H3 HZ HA HB
    go_wp2_with fail
    refine (L1.out _).mono ?_
    rintro e w4 ⟨rfl, hB4⟩
    have hB4' := hB3'.trans (hB4.mono hB3'.size)
    clear hB3' hB4
    go_wp2_with fail
    refine (L2.out _).mono ?_
    rintro e w5 ⟨rfl, hB5⟩
    have hB5' := hB4'.trans (hB5.mono hB4'.size)
    clear hB4' hB5
    have hfin : ∀ W, Below w.heap.size w W → True := fun _ _ => trivial
    rcases h3 with ⟨rfl, rfl, hq⟩ | ⟨rfl, rfl, hq⟩ | ⟨rfl, rfl, hq⟩
    · have hq' : (a.toList != b.toList) = true := by rw [bne, hq]; rfl
      go_wp2_with fail
      refine (L3.out _).mono ?_
      rintro e w6 ⟨rfl, hB6⟩
      have hB6' := hB5'.trans (hB6.mono hB5'.size)
      clear hB5' hB6
      cases z
      · go_wp2_with fail
        refine (HC.out _).mono ?_
        rintro e w7 ⟨rfl, hB7⟩
        have hB7' := hB6'.trans (hB7.mono hB6'.size)
        clear hB6' hB7
        cases mc
        · go_wp2
          go_ret
          exact ⟨rfl, hB7'⟩
        · go_wp2_with fail
          refine (Hl.out (by simp) _).mono ?_
          rintro e w8 ⟨rfl, hB8⟩
          go_wp2
          go_ret
          exact ⟨rfl, hB7'.trans (hB8.mono hB7'.size)⟩
      · obtain rfl : u = true := HT.out (by simp) (by simp)
        go_wp2_with fail
        refine (L4.out _).mono ?_
        rintro e w6 ⟨rfl, hB6⟩
        have hB5' := hB6'.trans (hB6.mono hB6'.size)
        clear hB6' hB6
        go_wp2_with fail
        refine (HC.out _).mono ?_
        rintro e w7 ⟨rfl, hB7⟩
        have hB7' := hB5'.trans (hB7.mono hB5'.size)
        clear hB5' hB7
        cases mc
        · go_wp2
          go_ret
          exact ⟨rfl, hB7'⟩
        · go_wp2_with fail
          refine (Hl.out (by simp) _).mono ?_
          rintro e w8 ⟨rfl, hB8⟩
          go_wp2
          go_ret
          exact ⟨rfl, hB7'.trans (hB8.mono hB7'.size)⟩
    · have hq' : (a.toList != b.toList) = true := by rw [bne, hq]; rfl
      go_wp2_with fail
      refine (HC.out _).mono ?_
      rintro e w7 ⟨rfl, hB7⟩
      have hB7' := hB5'.trans (hB7.mono hB5'.size)
      clear hB5' hB7
      cases mc
      · go_wp2
        go_ret
        exact ⟨rfl, hB7'⟩
      · go_wp2_with fail
        refine (Hl.out (by simp) _).mono ?_
        rintro e w8 ⟨rfl, hB8⟩
        go_wp2
        go_ret
        exact ⟨rfl, hB7'.trans (hB8.mono hB7'.size)⟩
    · have hq' : (a.toList != b.toList) = false := by rw [bne, hq]; rfl
      go_wp2_with fail
      refine (HC.out _).mono ?_
      rintro e w7 ⟨rfl, hB7⟩
      have hB7' := hB5'.trans (hB7.mono hB5'.size)
      clear hB5' hB7
      cases mc
      · go_wp2
        go_ret
        exact ⟨rfl, hB7'⟩
      · go_wp2_with fail
        refine (Hl.out (by simp) _).mono ?_
        rintro e w8 ⟨rfl, hB8⟩
        go_wp2
        go_ret
        exact ⟨rfl, hB7'.trans (hB8.mono hB7'.size)⟩
  · have h200' : decide ((200 : Int) < (c.size : Int)) = true := by simp; omega
    go_wp2
    go_ret
    exact ⟨rfl, hB3'⟩
end Go.Proofs.Yteejinngkjgifaa
