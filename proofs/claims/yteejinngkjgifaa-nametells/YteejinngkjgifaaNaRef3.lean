/- The contracts of the document's own Less, Join and Split: what the plain functions tell; nothing that was there is changed. Condition: at most 2^20 bytes. -/
import Derived.Test.YteejinngkjgifaaNaRef2
import Derived.Test.YteejinngkjgifaaNaSplit
import Derived.BigQuiet
namespace Go.Proofs.Yteejinngkjgifaa
open Go.RowKit

theorem int_at {w : World} {A : Option Addr} {bs : List Nat} {k : Nat} (h : Rd w A (i64s bs)) (hk : k < bs.length) :
    ∃ b off, A = some ⟨b, off, none⟩ ∧ b < w.heap.size ∧ w.cell? ⟨b, off + k, none⟩ = some (.int .i64 ((bs.getD k 0 : Nat) : Int)) := by
  obtain ⟨b, off, rfl, hlt, hc⟩ := h.at (k := k) (by simpa using hk)
  refine ⟨b, off, rfl, hlt, ?_⟩
  rw [hc k _ (i64s_get hk)]
  simp [hk]
theorem lex_step {x y : List Nat} {k : Nat} (h1 : k < x.length) (h2 : k < y.length) : lexN (x.drop k) (y.drop k) = if x.getD k 0 = y.getD k 0 then lexN (x.drop (k + 1)) (y.drop (k + 1)) else decide (x.getD k 0 < y.getD k 0) := by
  rw [List.drop_eq_getElem_cons h1, List.drop_eq_getElem_cons h2, lexN]
  simp [h1, h2]
theorem lex_over {x y : List Nat} {k : Nat} (hx : k ≤ x.length) (hy : k ≤ y.length) (h : ¬ (k < x.length ∧ k < y.length)) : lexN (x.drop k) (y.drop k) = decide (x.length < y.length) := by
  by_cases h2 : k < y.length
  · rw [List.drop_of_length_le (show x.length ≤ k by omega), List.drop_eq_getElem_cons h2, lexN, decide_eq_true (by omega)]
  · rw [List.drop_of_length_le (show y.length ≤ k by omega), lex_nil, decide_eq_false (by omega)]

set_option maxRecDepth 100000 in
set_option maxHeartbeats 2000000 in
theorem rless_any (a b : ByteArray) (w : World) (ha : a.size ≤ 1048576) (hb : b.size ≤ 1048576) : Calls Try.prog 13 #[.string a, .string b] w fun e w' => e = .returned (.bool (lexN (sgn (byt a)) (sgn (byt b)))) ∧ Below w.heap.size w w' := by
  have HA := Lib.hid (rsigns_any a w ha)
  have HB := Lib.hid (fun W => rsigns_any b W hb)
  have hla : (sgn (byt a)).length ≤ 1048576 := Nat.le_trans (sgn_length_le _) (by rw [byt_length]; exact ha)
  have hlb : (sgn (byt b)).length ≤ 1048576 := Nat.le_trans (sgn_length_le _) (by rw [byt_length]; exact hb)
  generalize sgn (byt a) = x at *
  generalize sgn (byt b) = y at *
  obtain ⟨r, hr⟩ : ∃ r, r = lexN x y := ⟨_, rfl⟩
  rw [← hr]
  have Hst : Hid (lexN (x.drop 0) (y.drop 0) = r) := by rw [List.drop_zero, List.drop_zero, ← hr]; exact rfl
  clear hr
  go_enter Try.func13, Try.ntmps13
  go_wp2_with fail
  refine HA.out.mono ?_
  rintro e w1 ⟨v, rfl, hown, hB1⟩
  obtain ⟨A, cp, rfl, hcp, hrd1, _⟩ := own_slice hown
  go_wp2_with fail
  refine (HB.out _).mono ?_
  rintro e w2 ⟨v, rfl, hown2, hB2⟩
  obtain ⟨A2, cp2, rfl, hcp2, hrd2, _⟩ := own_slice hown2
  have hrd1' := hrd1.below hB2
  have HBel := Lib.hid (hB1.trans (hB2.mono hB1.size))
  have HR1 := Lib.hid hrd1'
  have HR2 := Lib.hid hrd2
  clear hown hown2 hrd1 hrd1' hrd2 hB1 hB2 HA HB
  go_wp2
  go_loopw [7] (fun i W => ∃ (k q : Nat), i = .int .i64 (k : Int) ∧ k ≤ x.length ∧ k ≤ y.length ∧ W = w2.drewN q ∧ Hid (lexN (x.drop k) (y.drop k) = r)) (fun i _ => x.length - (intOf i).toNat)
  case atStart => exact ⟨0, 0, rfl, Nat.zero_le _, Nat.zero_le _, rfl, Hst⟩
  case round =>
    obtain ⟨k, q, rfl, hkx, hky, rfl, hc⟩ := hrel
    clear Hst
    by_cases hlt : k < x.length ∧ k < y.length
    · have hst := lex_step hlt.1 hlt.2
      rw [hc.out] at hst
      have hst := Lib.hid hst
      obtain ⟨g1, o1, rfl, _, hc1⟩ := int_at HR1.out hlt.1
      obtain ⟨g2, o2, rfl, _, hc2⟩ := int_at HR2.out hlt.2
      generalize x.getD k 0 = cx at *
      generalize y.getD k 0 = cy at *
      have hx1 : (k : Int) < (x.length : Int) := by omega
      have hy1 : (k : Int) < (y.length : Int) := by omega
      clear HR1 HR2 hc
      by_cases he : cx = cy
      · have Hn : Hid (lexN (x.drop (k + 1)) (y.drop (k + 1)) = r) := by have := hst.out; rw [if_pos he] at this; exact this.symm
        subst he
        clear hst
        go_wp2_with fail
        go_quiet (fail)
        go_wp2
        go_roundw
        case rel => exact ⟨k + 1, _, by go_num, by omega, by omega, rfl, Hn⟩
        case measure => simp [intOf]; omega
      · have Hn : Hid (r = decide (cx < cy)) := by have := hst.out; rw [if_neg he] at this; exact this
        have hne : ((cx : Int) != (cy : Int)) = true := by simp; omega
        clear hst
        go_wp2_with fail
        go_quiet (fail)
        go_wp2_with fail
        go_quiet (fail)
        go_wp2
        go_ret
        refine ⟨ret_bool (Hn.out.trans ?_).symm, below_drewN (below_drewN (below_drewN HBel.out _) _) _⟩
        rfl
    · have Hn := Lib.hid (lex_over hkx hky hlt)
      rw [hc.out] at Hn
      clear hc HR1 HR2
      by_cases hx1 : k < x.length
      · have hx1' : (k : Int) < (x.length : Int) := by omega
        have hy1 : ¬ (k : Int) < (y.length : Int) := by omega
        go_wp2
        go_ret
        refine ⟨ret_bool (Hn.out.trans ?_).symm, below_drewN HBel.out _⟩
        rfl
      · have hx1' : ¬ (k : Int) < (x.length : Int) := by omega
        go_wp2
        go_ret
        refine ⟨ret_bool (Hn.out.trans ?_).symm, below_drewN HBel.out _⟩
        rfl

set_option maxRecDepth 100000 in
set_option maxHeartbeats 1000000 in
theorem rjoin_any (a b : ByteArray) (w : World) (ha : a.size ≤ 1048576) (hb : b.size ≤ 1048576) : Calls Try.prog 19 #[.string a, .string b] w fun e w' => ∃ t, e = .returned (.string t) ∧ byt t = joinN (byt a) (byt b) ∧ Below w.heap.size w w' := by
  have HA := Lib.hid (fun W => rmay_any a W ha)
  have HB := Lib.hid (fun W => rmay_any b W hb)
  have Hf : Hid (¬ (mayN (byt a) = true ∧ mayN (byt b) = true) → joinN (byt a) (byt b) = []) := fun h => by rw [joinN, if_neg h]
  have Ht : Hid (mayN (byt a) = true → mayN (byt b) = true → byt (a ++ ⟨#[46]⟩ ++ b) = joinN (byt a) (byt b)) := fun h1 h2 => by
    rw [joinN, if_pos ⟨h1, h2⟩, byt_append, byt_append, byt_dot, List.append_assoc]; rfl
  generalize joinN (byt a) (byt b) = j at *
  generalize mayN (byt a) = ma at *
  generalize mayN (byt b) = mb at *
  go_enter Try.func19, Try.ntmps19
  go_wp2_with fail
  refine (HA.out _).mono ?_
  rintro e w1 ⟨rfl, hB1⟩
  go_wp2_with fail
  refine (HB.out _).mono ?_
  rintro e w2 ⟨rfl, hB2⟩
  have hB := hB1.trans (hB2.mono hB1.size)
  clear hB1 hB2 HA HB
  cases ma
  · have Hj := Lib.hid (Hf.out (by simp))
    clear Hf Ht
    go_wp2
    go_ret
    exact ⟨_, rfl, Hj.out.symm, hB⟩
  · cases mb
    · have Hj := Lib.hid (Hf.out (by simp))
      clear Hf Ht
      go_wp2
      go_ret
      exact ⟨_, rfl, Hj.out.symm, hB⟩
    · have Hj := Lib.hid (Ht.out (by simp) (by simp))
      clear Hf Ht
      go_wp2
      go_ret
      exact ⟨_, rfl, Hj.out, hB⟩

/-- Where the document's own Split stands: no point that it passed was the one. -/
theorem pass_other {l : List Nat} {k : Nat} (h : canN l = true → k ≤ dotN l) (hne : l.getD k 0 ≠ 46) : canN l = true → k + 1 ≤ dotN l := fun hc => by
  have h1 := h hc
  have hlt : dotN l < l.length := by
    rw [canN, Bool.and_eq_true, Bool.and_eq_true, decide_eq_true_iff] at hc; exact hc.1.1
  have hg : l[dotN l] = 46 := beq_iff_eq.1 (List.findIdx_getElem (p := (· == 46)) (w := hlt))
  rcases Nat.lt_or_ge k (dotN l) with h2 | h2
  · exact h2
  · obtain rfl : k = dotN l := by omega
    exact absurd (by rw [List.getD_eq_getElem?_getD, List.getElem?_eq_getElem hlt, hg]; rfl) hne
theorem pass_none {l : List Nat} {k : Nat} (h : canN l = true → k ≤ dotN l) (hne : ¬ (mayN (l.take k) = true ∧ mayN (l.drop (k + 1)) = true)) : canN l = true → k + 1 ≤ dotN l := fun hc => by
  have h1 := h hc
  rcases Nat.lt_or_ge k (dotN l) with h2 | h2
  · exact h2
  · obtain rfl : k = dotN l := by omega
    rw [canN, Bool.and_eq_true, Bool.and_eq_true] at hc
    exact absurd ⟨hc.1.2, hc.2⟩ hne
theorem pass_end {l : List Nat} (h : canN l = true → l.length ≤ dotN l) : canN l = false ∧ splitN l = ([], []) := by
  have hc : canN l = false := by
    cases e : canN l
    · rfl
    · have h1 := h e
      rw [canN, Bool.and_eq_true, Bool.and_eq_true, decide_eq_true_iff] at e
      omega
  exact ⟨hc, by rw [splitN, hc]; rfl⟩
theorem hit_at {l : List Nat} {k : Nat} (hk : k < l.length) (h46 : l.getD k 0 = 46) (h : mayN (l.take k) = true ∧ mayN (l.drop (k + 1)) = true) : canN l = true ∧ splitN l = (l.take k, l.drop (k + 1)) ∧ joinN (l.take k) (l.drop (k + 1)) = l := by
  have hd : l.drop k = 46 :: l.drop (k + 1) := by
    rw [List.drop_eq_getElem_cons hk]
    rw [List.getD_eq_getElem?_getD, List.getElem?_eq_getElem hk] at h46
    rw [show l[k] = 46 from h46]
  obtain ⟨h1, h2⟩ := split_at (may_nodot h.1) hd
  rw [h.1, h.2] at h1 h2
  refine ⟨h1, h2, ?_⟩
  rw [joinN, if_pos h, ← hd, List.take_append_drop]
end Go.Proofs.Yteejinngkjgifaa
