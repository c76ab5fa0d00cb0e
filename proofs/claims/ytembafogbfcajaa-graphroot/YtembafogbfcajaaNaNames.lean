/- Names, on lists of bytes: which may be, joined and split ones, and the order of any texts by their signs. Plain facts, no condition. -/
import Derived.Test.YtembafogbfcajaaNaSigns
namespace Go.Proofs.Ytembafogbfcajaa

theorem byt_append (s t : ByteArray) : byt (s ++ t) = byt s ++ byt t := by
  rw [byt, byt, byt, ← List.map_append]
  rw [ByteArray.data_append, Array.toList_append]
theorem byt_extract (s : ByteArray) (a b : Nat) : byt (s.extract a b) = ((byt s).take b).drop a := by
  rw [byt, byt, ByteArray.data_extract, Array.toList_extract, List.extract_eq_take_drop, ← List.map_take, ← List.map_drop]
  congr 1
  rw [List.drop_take]

def letS (c : Nat) : Bool := decide (97 ≤ c ∧ c ≤ 122) || (decide (223 ≤ c ∧ c ≤ 255) && decide (c ≠ 247))
def digS (c : Nat) : Bool := decide (48 ≤ c ∧ c ≤ 57)
def okS (c : Nat) : Bool := letS c || digS c
theorem letS_lt {c : Nat} (h : letS c = true) : 97 ≤ c ∧ c < 256 := by
  simp [letS] at h; omega
theorem okS_lt {c : Nat} (h : okS c = true) : 48 ≤ c ∧ c < 256 := by
  simp [okS, letS, digS] at h; omega
/-- Do these signs make a name? -/
def nameS : List Nat → Bool
  | [] => false
  | c :: t => letS c && t.all okS && decide (t.length < 8)
def mayN (l : List Nat) : Bool := nameS (sgn l)
def lenN (l : List Nat) : Nat := if mayN l = true then (sgn l).length else 0
theorem nameS_ok {cs : List Nat} (h : nameS cs = true) : cs ≠ [] ∧ cs.length ≤ 8 ∧ ∀ c ∈ cs, okS c = true := by
  cases cs with
  | nil => cases h
  | cons c t =>
    rw [nameS, Bool.and_eq_true, Bool.and_eq_true, decide_eq_true_iff, List.all_eq_true] at h
    refine ⟨by simp, by rw [List.length_cons]; omega, fun x hx => ?_⟩
    rcases List.mem_cons.1 hx with rfl | hx
    · rw [okS, h.1.1]; rfl
    · exact h.1.2 x hx
theorem nameS_append {x y : List Nat} (h : nameS x = true) (hy : ∀ c ∈ y, okS c = true) : nameS (x ++ y) = decide (x.length + y.length ≤ 8) := by
  cases x with
  | nil => cases h
  | cons c t =>
    rw [nameS, Bool.and_eq_true, Bool.and_eq_true, decide_eq_true_iff] at h
    have hy' : y.all okS = true := List.all_eq_true.2 hy
    rw [List.cons_append, nameS, h.1.1, List.all_append, h.1.2, hy', List.length_append, List.length_cons]
    simp only [Bool.true_and, Bool.and_self]
    rw [Bool.eq_iff_iff, decide_eq_true_iff, decide_eq_true_iff]
    omega
theorem nameS_take {x : List Nat} (h : nameS x = true) {j : Nat} (h1 : 1 ≤ j) : nameS (x.take j) = true := by
  cases x with
  | nil => cases h
  | cons c t =>
    obtain ⟨i, rfl⟩ : ∃ i, j = i + 1 := ⟨j - 1, by omega⟩
    rw [nameS, Bool.and_eq_true, Bool.and_eq_true, decide_eq_true_iff, List.all_eq_true] at h
    rw [List.take_succ_cons, nameS, Bool.and_eq_true, Bool.and_eq_true, decide_eq_true_iff, List.all_eq_true]
    refine ⟨⟨h.1.1, fun z hz => h.1.2 z (List.mem_of_mem_take hz)⟩, ?_⟩
    rw [List.length_take]
    omega
section
variable {a b : List Nat}
theorem may_lt (h : mayN a = true) : ∀ c ∈ sgn a, c < 2048 := fun c hc => by
  have := okS_lt ((nameS_ok h).2.2 c hc); omega
theorem may_enc (h : mayN a = true) : encL (sgn a) = a := enc_sgn a (may_lt h)
theorem may_inj (ha : mayN a = true) (hb : mayN b = true) (h : sgn a = sgn b) : a = b := by rw [← may_enc ha, h, may_enc hb]
theorem may_sgn (h : mayN a = true) (b : List Nat) : sgn (a ++ b) = sgn a ++ sgn b := by
  have := sgn_enc (sgn a) b (may_lt h)
  rw [may_enc h] at this
  exact this
theorem may_ne (h : mayN a = true) : a ≠ [] := by rintro rfl; cases h
theorem lenN_pos : lenN a = 0 ↔ mayN a = false := by
  rw [lenN]
  cases h : mayN a with
  | true =>
    rw [if_pos rfl]
    have := List.length_pos_iff.2 (nameS_ok h).1
    constructor
    · intro e; omega
    · intro e; cases e
  | false => simp
theorem lenN_le (h : mayN a = true) : lenN a = (sgn a).length ∧ 1 ≤ lenN a ∧ lenN a ≤ 8 ∧ lenN a ≤ a.length := by
  have h1 := List.length_pos_iff.2 (nameS_ok h).1
  have h2 := (nameS_ok h).2.1
  have h3 := sgn_length_le a
  rw [lenN, if_pos h]
  exact ⟨rfl, h1, h2, h3⟩
/-- Two names side by side. -/
theorem may_cat (ha : mayN a = true) (hb : mayN b = true) : mayN (a ++ b) = decide (lenN a + lenN b ≤ 8) ∧ (mayN (a ++ b) = true → lenN (a ++ b) = lenN a + lenN b) := by
  have e : mayN (a ++ b) = decide (lenN a + lenN b ≤ 8) := by
    rw [mayN, may_sgn ha, nameS_append ha (nameS_ok hb).2.2, (lenN_le ha).1, (lenN_le hb).1]
  refine ⟨e, fun h => ?_⟩
  rw [(lenN_le h).1, may_sgn ha, List.length_append, (lenN_le ha).1, (lenN_le hb).1]
theorem sgn_low {c : Nat} (h : c < 128) (t : List Nat) : sgn (c :: t) = c :: sgn t := by
  have := sgn_enc [c] t (by simp; omega)
  rw [encL, encL, encS, if_pos h] at this
  exact this
/-- A digit behind a name. -/
theorem may_dig (ha : mayN a = true) {d : Nat} (hd : digS d = true) : mayN (a ++ [d]) = decide (lenN a < 8) := by
  have hl : d < 128 := by simp [digS] at hd; omega
  rw [mayN, may_sgn ha, sgn_low hl, sgn_nil, nameS_append ha (by intro c hc; simp at hc; subst hc; rw [okS, hd, Bool.or_true]), (lenN_le ha).1]
  simp only [List.length_cons, List.length_nil]
  rw [Bool.eq_iff_iff, decide_eq_true_iff, decide_eq_true_iff]
  omega
/-- A byte below 128 of a name is a letter or a digit. -/
theorem may_low (ha : mayN a = true) {c : Nat} (hc : c ∈ a) (hl : c < 128) : okS c = true := (nameS_ok ha).2.2 c (low_mem hc hl)
theorem may_nodot (ha : mayN a = true) : 46 ∉ a := fun h => by
  have := okS_lt (may_low ha h (by omega)); omega
end
/-- What signs' bytes begin by, cut where a sign begins, is some signs' bytes. -/
theorem enc_cut : ∀ (cs : List Nat) (k : Nat), k < (encL cs).length → mid ((encL cs).getD k 0) = false → ∃ j, j < cs.length ∧ (encL cs).take k = encL (cs.take j) ∧ (1 ≤ k → 1 ≤ j)
  | [], k, h, _ => by simp [encL] at h
  | c :: cs, k, h, hm => by
    by_cases h0 : k = 0
    · subst h0; exact ⟨0, by simp, by simp [encL], fun h => h⟩
    · rw [encL] at h hm ⊢
      rw [List.length_append] at h
      by_cases hk : (encS c).length ≤ k
      · have hg : (encS c ++ encL cs).getD k 0 = (encL cs).getD (k - (encS c).length) 0 := by
          rw [List.getD_eq_getElem?_getD, List.getD_eq_getElem?_getD, List.getElem?_append_right hk]
        rw [hg] at hm
        obtain ⟨j, hj, e, _⟩ := enc_cut cs (k - (encS c).length) (by omega) hm
        refine ⟨j + 1, by rw [List.length_cons]; omega, ?_, fun _ => by omega⟩
        rw [List.take_succ_cons, encL, ← e, List.take_append, List.take_of_length_le hk]
      · exfalso
        rw [encS] at hk hm
        by_cases hc : c < 128
        · rw [if_pos hc] at hk; simp at hk; omega
        · rw [if_neg hc] at hk hm
          simp only [List.length_cons, List.length_nil] at hk
          obtain rfl : k = 1 := by omega
          have : mid (128 + c % 64) = true := decide_eq_true (by omega)
          simp only [List.cons_append, List.getD_cons_succ, List.getD_cons_zero] at hm
          rw [this] at hm
          cases hm
theorem may_take {a : List Nat} (ha : mayN a = true) {k : Nat} (h1 : 1 ≤ k) (h2 : k < a.length) (hm : mid (a.getD k 0) = false) : mayN (a.take k) = true ∧ lenN (a.take k) < lenN a := by
  have he := may_enc ha
  obtain ⟨j, hj, e, hj1⟩ := enc_cut (sgn a) k (by rw [he]; exact h2) (by rw [he]; exact hm)
  rw [he] at e
  have hs : sgn (a.take k) = (sgn a).take j := by
    rw [e]
    have := sgn_enc ((sgn a).take j) [] (fun c hc => may_lt ha c (List.mem_of_mem_take hc))
    rw [List.append_nil, sgn_nil, List.append_nil] at this
    exact this
  have hn : mayN (a.take k) = true := by rw [mayN, hs]; exact nameS_take ha (hj1 h1)
  refine ⟨hn, ?_⟩
  rw [(lenN_le hn).1, (lenN_le ha).1, hs, List.length_take]
  omega

/-- The order of texts, by their signs. -/
def lexN : List Nat → List Nat → Bool
  | _, [] => false
  | [], _ :: _ => true
  | a :: x, b :: y => if a = b then lexN x y else decide (a < b)
theorem lex_nil (x : List Nat) : lexN x [] = false := by cases x <;> rfl
theorem lex_not_both : ∀ x y : List Nat, lexN x y = true → lexN y x = false
  | _, [], h => by rw [lex_nil] at h; cases h
  | [], _ :: _, _ => lex_nil _
  | a :: x, b :: y, h => by
    rw [lexN] at h ⊢
    by_cases e : a = b
    · subst e
      rw [if_pos rfl] at h ⊢
      exact lex_not_both x y h
    · rw [if_neg e, decide_eq_true_iff] at h
      rw [if_neg (fun h => e h.symm)]
      exact decide_eq_false (by omega)
theorem lex_total : ∀ x y : List Nat, x ≠ y → lexN x y = true ∨ lexN y x = true
  | [], [], h => absurd rfl h
  | [], _ :: _, _ => .inl rfl
  | _ :: _, [], _ => .inr rfl
  | a :: x, b :: y, h => by
    rw [lexN, lexN]
    by_cases e : a = b
    · subst e
      rw [if_pos rfl, if_pos rfl]
      exact lex_total x y fun e => h (by rw [e])
    · rw [if_neg e, if_neg (fun h => e h.symm), decide_eq_true_iff, decide_eq_true_iff]
      omega
theorem lex_self : ∀ x : List Nat, lexN x x = false
  | [] => rfl
  | a :: x => by rw [lexN, if_pos rfl]; exact lex_self x
theorem lex_trans : ∀ x y z : List Nat, lexN x y = true → lexN y z = true → lexN x z = true
  | _, _, [], _, h => by rw [lex_nil] at h; cases h
  | _, [], _ :: _, h, _ => by rw [lex_nil] at h; cases h
  | [], _ :: _, _ :: _, _, _ => rfl
  | a :: x, b :: y, c :: z, h1, h2 => by
    rw [lexN] at h1 h2 ⊢
    by_cases e1 : a = b
    · subst e1
      rw [if_pos rfl] at h1
      by_cases e2 : a = c
      · subst e2
        rw [if_pos rfl] at h2 ⊢
        exact lex_trans x y z h1 h2
      · rw [if_neg e2] at h2 ⊢
        exact h2
    · rw [if_neg e1, decide_eq_true_iff] at h1
      by_cases e2 : b = c
      · subst e2
        rw [if_neg e1]
        exact decide_eq_true h1
      · rw [if_neg e2, decide_eq_true_iff] at h2
        rw [if_neg (by omega)]
        exact decide_eq_true (by omega)
theorem lex_more : ∀ x y : List Nat, y ≠ [] → lexN x (x ++ y) = true
  | [], [], h => absurd rfl h
  | [], _ :: _, _ => rfl
  | a :: x, y, h => by rw [List.cons_append, lexN, if_pos rfl]; exact lex_more x y h

/-- Both names with a point between them, if both may be. -/
def joinN (a b : List Nat) : List Nat := if mayN a = true ∧ mayN b = true then a ++ 46 :: b else []
def dotN (s : List Nat) : Nat := s.findIdx (· == 46)
def canN (s : List Nat) : Bool := decide (dotN s < s.length) && mayN (s.take (dotN s)) && mayN (s.drop (dotN s + 1))
def splitN (s : List Nat) : List Nat × List Nat := if canN s = true then (s.take (dotN s), s.drop (dotN s + 1)) else ([], [])
theorem dot_first {a : List Nat} (h : 46 ∉ a) (b : List Nat) : dotN (a ++ 46 :: b) = a.length := by
  induction a with
  | nil => rfl
  | cons c a ih =>
    have hc : (c == 46) = false := beq_eq_false_iff_ne.2 fun e => h (by simp [e])
    rw [dotN, List.cons_append, List.findIdx_cons, hc]
    simp only [cond_false, List.length_cons]
    rw [← ih fun hm => h (by simp [hm])]
    rfl
theorem dot_there {s : List Nat} (h : dotN s < s.length) : s = s.take (dotN s) ++ 46 :: s.drop (dotN s + 1) := by
  have hg : s[dotN s] = 46 := beq_iff_eq.1 (List.findIdx_getElem (p := (· == 46)) (w := h))
  have h2 := List.drop_eq_getElem_cons h
  rw [hg] at h2
  rw [← h2, List.take_append_drop]
theorem split_join {a b : List Nat} (ha : mayN a = true) (hb : mayN b = true) : canN (a ++ 46 :: b) = true ∧ splitN (a ++ 46 :: b) = (a, b) := by
  have hd := dot_first (may_nodot ha) b
  have hc : canN (a ++ 46 :: b) = true := by
    rw [canN, hd, List.take_left, show (a ++ 46 :: b).drop (a.length + 1) = b from by rw [← List.drop_drop, List.drop_left]; rfl, ha, hb]
    simp
  refine ⟨hc, ?_⟩
  rw [splitN, if_pos hc, hd, List.take_left, show (a ++ 46 :: b).drop (a.length + 1) = b from by rw [← List.drop_drop, List.drop_left]; rfl]
theorem join_split {s : List Nat} (h : canN s = true) : mayN (splitN s).1 = true ∧ mayN (splitN s).2 = true ∧ s = (splitN s).1 ++ 46 :: (splitN s).2 ∧ joinN (splitN s).1 (splitN s).2 = s := by
  have h' := h
  rw [canN, Bool.and_eq_true, Bool.and_eq_true, decide_eq_true_iff] at h'
  have e := dot_there h'.1.1
  rw [splitN, if_pos h]
  refine ⟨h'.1.2, h'.2, e, ?_⟩
  rw [joinN, if_pos ⟨h'.1.2, h'.2⟩]
  exact e.symm
theorem join_nil : canN [] = false := rfl
theorem can_dots {s : List Nat} (h : canN s = true) : s.count 46 = 1 := by
  obtain ⟨h1, h2, e, _⟩ := join_split h
  rw [e, List.count_append, List.count_cons_self, List.count_eq_zero.2 (may_nodot h1), List.count_eq_zero.2 (may_nodot h2)]
theorem encL_len : ∀ cs : List Nat, (encL cs).length ≤ 2 * cs.length
  | [] => by simp [encL]
  | c :: cs => by
    have := encL_len cs
    rw [encL, List.length_append, List.length_cons]
    have : (encS c).length ≤ 2 := by unfold encS; split <;> simp
    omega
theorem may_size {s : ByteArray} (h : mayN (byt s) = true) : s.size ≤ 16 := by
  have h1 := encL_len (sgn (byt s))
  rw [may_enc h, byt_length] at h1
  have := (nameS_ok h).2.1
  omega
theorem byt_toList (s : ByteArray) : byt s = s.toList.map UInt8.toNat := by rw [byt, ByteArray.toList_eq]
theorem str_beq (s t : ByteArray) : (s.toList == t.toList) = decide (byt s = byt t) := by
  by_cases h : byt s = byt t
  · rw [byt_inj h]; simp
  · rw [decide_eq_false h, beq_eq_false_iff_ne]
    intro e
    exact h (by rw [byt_toList, byt_toList, e])
theorem str_empty (t : ByteArray) : t.toList.isEmpty = (byt t).isEmpty := by
  rw [byt_toList]; cases t.toList <;> rfl

end Go.Proofs.Ytembafogbfcajaa
