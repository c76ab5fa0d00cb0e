/- The signs of bytes, one after the other; names among them; what is ahead. Plain facts, no condition. -/
import Derived.Test.YtembafogbfcajaaNaPlain
namespace Go.Proofs.Ytembafogbfcajaa

theorem sigOf_cases (a b c d : Nat) : (a < 128 ∧ sigOf a b c d = (a, 1)) ∨ (194 ≤ a ∧ a < 224 ∧ mid b = true ∧ sigOf a b c d = ((a - 192) * 64 + (b - 128), 2)) ∨
    (224 ≤ a ∧ mid b = true ∧ mid c = true ∧ 2048 ≤ v3 a b c ∧ sigOf a b c d = (v3 a b c, 3)) ∨ (240 ≤ a ∧ mid b = true ∧ mid c = true ∧ mid d = true ∧ 65536 ≤ v4 a b c d ∧ sigOf a b c d = (v4 a b c d, 4)) ∨ (128 ≤ a ∧ sigOf a b c d = (65533, 1)) := by
  by_cases ha : a < 128
  · exact .inl ⟨ha, sig_1 ha⟩
  by_cases h2 : 194 ≤ a ∧ a < 224 ∧ mid b = true
  · exact .inr (.inl ⟨h2.1, h2.2.1, h2.2.2, sig_2 h2.1 h2.2.1 h2.2.2⟩)
  by_cases h3 : 224 ≤ a ∧ a < 240 ∧ mid b = true ∧ mid c = true ∧ 2048 ≤ v3 a b c ∧ ¬ (55296 ≤ v3 a b c ∧ v3 a b c < 57344)
  · exact .inr (.inr (.inl ⟨h3.1, h3.2.2.1, h3.2.2.2.1, h3.2.2.2.2.1, sig_3 h3.1 h3.2.1 h3.2.2.1 h3.2.2.2.1 h3.2.2.2.2.1 h3.2.2.2.2.2⟩))
  by_cases h4 : 240 ≤ a ∧ a < 248 ∧ mid b = true ∧ mid c = true ∧ mid d = true ∧ 65536 ≤ v4 a b c d ∧ v4 a b c d < 1114112
  · exact .inr (.inr (.inr (.inl ⟨h4.1, h4.2.2.1, h4.2.2.2.1, h4.2.2.2.2.1, h4.2.2.2.2.2.1, sig_4 h4.1 h4.2.1 h4.2.2.1 h4.2.2.2.1 h4.2.2.2.2.1 h4.2.2.2.2.2.1 h4.2.2.2.2.2.2⟩)))
  · exact .inr (.inr (.inr (.inr ⟨by omega, sig_x ha h2 h3 h4⟩)))

theorem mid_in {l : List Nat} {k : Nat} (h : mid (l.getD k 0) = true) : k < l.length := by
  rcases Nat.lt_or_ge k l.length with h1 | h1
  · exact h1
  · rw [List.getD_eq_getElem?_getD, List.getElem?_eq_none h1] at h
    cases h
/-- A sign has one byte at least, no more than there are, and what is not its first one goes on with it. -/
theorem sig_wide (l : List Nat) : 1 ≤ (sig l).2 ∧ (l ≠ [] → (sig l).2 ≤ l.length) ∧ ∀ k, 1 ≤ k → k < (sig l).2 → mid (l.getD k 0) = true := by
  have hne : l ≠ [] → 1 ≤ l.length := fun h => List.length_pos_iff.2 h
  rw [sig]
  rcases sigOf_cases (l.getD 0 0) (l.getD 1 0) (l.getD 2 0) (l.getD 3 0) with ⟨_, e⟩ | ⟨_, _, h1, e⟩ | ⟨_, h1, h2, _, e⟩ | ⟨_, h1, h2, h3, _, e⟩ | ⟨_, e⟩
  all_goals rw [e]
  · exact ⟨Nat.le_refl _, hne, fun k hk hk' => absurd hk' (by simp only; omega)⟩
  · have := mid_in h1
    refine ⟨by simp, fun _ => by simp only; omega, fun k hk hk' => ?_⟩
    simp only at hk'
    obtain rfl : k = 1 := by omega
    exact h1
  · have := mid_in h2
    refine ⟨by simp, fun _ => by simp only; omega, fun k hk hk' => ?_⟩
    simp only at hk'
    obtain rfl | rfl : k = 1 ∨ k = 2 := by omega
    · exact h1
    · exact h2
  · have := mid_in h3
    refine ⟨by simp, fun _ => by simp only; omega, fun k hk hk' => ?_⟩
    simp only at hk'
    obtain rfl | rfl | rfl : k = 1 ∨ k = 2 ∨ k = 3 := by omega
    · exact h1
    · exact h2
    · exact h3
  · exact ⟨Nat.le_refl _, hne, fun k hk hk' => absurd hk' (by simp only; omega)⟩

def sigs : Nat → List Nat → List Nat
  | 0, _ => []
  | n + 1, l => if l = [] then [] else (sig l).1 :: sigs n (l.drop (sig l).2)
/-- The signs of bytes. -/
def sgn (l : List Nat) : List Nat := sigs l.length l
theorem sigs_enough : ∀ (n m : Nat) (l : List Nat), l.length ≤ n → l.length ≤ m → sigs n l = sigs m l := by
  intro n
  induction n with
  | zero =>
    intro m l h1 _
    obtain rfl : l = [] := List.eq_nil_of_length_eq_zero (by omega)
    cases m <;> simp [sigs]
  | succ n ih =>
    intro m l h1 h2
    by_cases hl : l = []
    · subst hl
      cases m <;> simp [sigs]
    · cases m with
      | zero => exact absurd (List.eq_nil_of_length_eq_zero (by omega)) hl
      | succ m =>
        have hw := (sig_wide l).1
        have hlen : (l.drop (sig l).2).length ≤ l.length - 1 := by rw [List.length_drop]; omega
        rw [sigs, sigs, if_neg hl, if_neg hl, ih m _ (by omega) (by omega)]
theorem sgn_nil : sgn [] = [] := rfl
theorem sgn_cons {l : List Nat} (h : l ≠ []) : sgn l = (sig l).1 :: sgn (l.drop (sig l).2) := by
  have hp : 0 < l.length := List.length_pos_iff.2 h
  have hw := (sig_wide l).1
  obtain ⟨n, hn⟩ : ∃ n, l.length = n + 1 := ⟨l.length - 1, by omega⟩
  rw [sgn, hn, sigs, if_neg h, sgn]
  rw [sigs_enough n _ _ (by rw [List.length_drop]; omega) (Nat.le_refl _)]
theorem sgn_length_le (l : List Nat) : (sgn l).length ≤ l.length := by
  suffices h : ∀ (n : Nat) (l : List Nat), l.length ≤ n → (sgn l).length ≤ l.length from h _ l (Nat.le_refl _)
  intro n
  induction n with
  | zero =>
    intro l hl
    obtain rfl : l = [] := List.eq_nil_of_length_eq_zero (by omega)
    simp [sgn_nil]
  | succ n ih =>
    intro l hl
    by_cases h : l = []
    · subst h; simp [sgn_nil]
    · have hp : 0 < l.length := List.length_pos_iff.2 h
      have hw := (sig_wide l).1
      have := ih (l.drop (sig l).2) (by rw [List.length_drop]; omega)
      rw [sgn_cons h, List.length_cons]
      rw [List.length_drop] at this
      omega

/-- The bytes of a sign below 2048. -/
def encS (c : Nat) : List Nat := if c < 128 then [c] else [192 + c / 64, 128 + c % 64]
def encL : List Nat → List Nat
  | [] => []
  | c :: cs => encS c ++ encL cs
theorem encL_append (a b : List Nat) : encL (a ++ b) = encL a ++ encL b := by
  induction a with
  | nil => rfl
  | cons c a ih => rw [List.cons_append, encL, encL, ih, List.append_assoc]
theorem encS_ne (c : Nat) (t : List Nat) : encS c ++ t ≠ [] := by unfold encS; split <;> simp
theorem sig_enc {c : Nat} (h : c < 2048) (t : List Nat) : sig (encS c ++ t) = (c, (encS c).length) := by
  rw [sig, encS]
  by_cases h1 : c < 128
  · rw [if_pos h1]
    exact sig_1 h1
  · rw [if_neg h1]
    have e : (192 + c / 64 - 192) * 64 + (128 + c % 64 - 128) = c := by omega
    have hm : mid (128 + c % 64) = true := decide_eq_true (by omega)
    have := sig_2 (a := 192 + c / 64) (b := 128 + c % 64) (c := ([192 + c / 64, 128 + c % 64] ++ t).getD 2 0) (d := ([192 + c / 64, 128 + c % 64] ++ t).getD 3 0) (by omega) (by omega) hm
    rw [e] at this
    exact this
theorem sgn_enc : ∀ (cs t : List Nat), (∀ c ∈ cs, c < 2048) → sgn (encL cs ++ t) = cs ++ sgn t
  | [], t, _ => rfl
  | c :: cs, t, h => by
    have hc := h c (by simp)
    rw [encL, List.append_assoc, sgn_cons (encS_ne _ _), sig_enc hc]
    simp only [List.drop_left]
    rw [sgn_enc cs t (fun x hx => h x (by simp [hx]))]
    rfl
theorem two_more {l : List Nat} (h : 2 ≤ l.length) : ∃ a b t, l = a :: b :: t := by
  rcases l with _ | ⟨a, _ | ⟨b, t⟩⟩
  · simp at h
  · simp at h
  · exact ⟨a, b, t, rfl⟩
theorem sig_back {l : List Nat} (hl : l ≠ []) (h : (sig l).1 < 2048) : l = encS (sig l).1 ++ l.drop (sig l).2 := by
  have hw := (sig_wide l).2.1 hl
  rw [sig] at h hw ⊢
  rcases sigOf_cases (l.getD 0 0) (l.getD 1 0) (l.getD 2 0) (l.getD 3 0) with ⟨h0, e⟩ | ⟨h0, h0', h1, e⟩ | ⟨_, _, _, h1, e⟩ | ⟨_, _, _, _, h1, e⟩ | ⟨_, e⟩
  all_goals rw [e] at h hw ⊢
  all_goals simp only at h hw ⊢
  · cases l with
    | nil => exact absurd rfl hl
    | cons a t =>
      simp only [List.getD_cons_zero] at h0 ⊢
      rw [encS, if_pos h0]; rfl
  · clear e h
    obtain ⟨a, b, t, rfl⟩ := two_more hw
    simp only [List.getD_cons_zero, List.getD_cons_succ] at h0 h0' h1 ⊢
    have hb := mid_of h1
    have e1 : 192 + ((a - 192) * 64 + (b - 128)) / 64 = a := by omega
    have e2 : 128 + ((a - 192) * 64 + (b - 128)) % 64 = b := by omega
    rw [encS, if_neg (by omega), e1, e2]; rfl
  · omega
  · omega
  · omega
theorem enc_sgn (l : List Nat) (h : ∀ c ∈ sgn l, c < 2048) : encL (sgn l) = l := by
  suffices H : ∀ (n : Nat) (l : List Nat), l.length ≤ n → (∀ c ∈ sgn l, c < 2048) → encL (sgn l) = l from H _ l (Nat.le_refl _) h
  intro n
  induction n with
  | zero =>
    intro l hl _
    obtain rfl : l = [] := List.eq_nil_of_length_eq_zero (by omega)
    rfl
  | succ n ih =>
    intro l hl hc
    by_cases h0 : l = []
    · subst h0; rfl
    · have hw := (sig_wide l).1
      have hp : 0 < l.length := List.length_pos_iff.2 h0
      rw [sgn_cons h0] at hc ⊢
      have hb := sig_back h0 (hc _ (by simp))
      rw [encL, ih _ (by rw [List.length_drop]; omega) (fun c h => hc c (by simp [h]))]
      exact hb.symm
/-- A byte below 128 is a sign wherever it stands. -/
theorem low_mem {l : List Nat} {c : Nat} (hm : c ∈ l) (hc : c < 128) : c ∈ sgn l := by
  suffices H : ∀ (n : Nat) (l : List Nat), l.length ≤ n → c ∈ l → c ∈ sgn l from H _ l (Nat.le_refl _) hm
  intro n
  induction n with
  | zero =>
    intro l hl h
    obtain rfl : l = [] := List.eq_nil_of_length_eq_zero (by omega)
    simp at h
  | succ n ih =>
    intro l hl h
    have h0 : l ≠ [] := List.ne_nil_of_mem h
    have hp : 0 < l.length := List.length_pos_iff.2 h0
    obtain ⟨hw1, hw2, hw3⟩ := sig_wide l
    rw [sgn_cons h0]
    obtain ⟨k, hk, rfl⟩ := List.getElem_of_mem h
    have hg : l.getD k 0 = l[k] := by rw [List.getD_eq_getElem?_getD, List.getElem?_eq_getElem hk]; rfl
    by_cases hk2 : (sig l).2 ≤ k
    · refine List.mem_cons_of_mem _ (ih _ (by rw [List.length_drop]; omega) ?_)
      rw [List.mem_iff_getElem?]
      exact ⟨k - (sig l).2, by rw [List.getElem?_drop, show (sig l).2 + (k - (sig l).2) = k by omega, List.getElem?_eq_getElem hk]⟩
    · by_cases hk0 : k = 0
      · subst hk0
        have : sig l = (l[0], 1) := by rw [sig, hg]; exact sig_1 hc
        rw [this]; simp
      · have := mid_of (hw3 k (by omega) (by omega))
        rw [hg] at this
        omega
end Go.Proofs.Ytembafogbfcajaa
