/- Numbers as bytes, in plain mathematics: the digits of a number, the number of digits, all numbers of bytes; and how they hang together. No condition but the bounds that each lemma names. -/
namespace Go.Proofs.Ytpllbjkjlaacjaa

def vputL (n : Nat) : List Nat := if n < 128 then [n] else (n % 128 + 128) :: vputL (n / 128)
termination_by n
decreasing_by omega

theorem putL_small {n : Nat} (h : n < 128) : vputL n = [n] := by rw [vputL, if_pos h]
theorem putL_big {n : Nat} (h : ¬ n < 128) : vputL n = (n % 128 + 128) :: vputL (n / 128) := by rw [vputL, if_neg h]
theorem putL_pos (n : Nat) : 0 < (vputL n).length := by
  by_cases h : n < 128
  · rw [putL_small h]; simp
  · rw [putL_big h]; simp
theorem vputL_byte (n : Nat) : ∀ x ∈ vputL n, x < 256 := by
  induction n using Nat.strongRecOn with
  | _ n ih =>
    by_cases h : n < 128
    · rw [putL_small h]; simp; omega
    · rw [putL_big h]; simp only [List.mem_cons]; rintro x (rfl | hx)
      · omega
      · exact ih _ (by omega) x hx
theorem putL_len (k : Nat) : ∀ n : Nat, n < 128 ^ (k + 1) → (vputL n).length ≤ k + 1 := by
  induction k with
  | zero => intro n h; rw [putL_small (by simpa using h)]; simp
  | succ k ih =>
    intro n h
    by_cases hs : n < 128
    · rw [putL_small hs]; simp
    · rw [putL_big hs]; simp only [List.length_cons]
      have : n / 128 < 128 ^ (k + 1) := by
        rw [Nat.div_lt_iff_lt_mul (by omega)]; rw [Nat.pow_succ] at h; exact h
      have := ih _ this
      omega
theorem putL_len10 (n : Nat) (h : n < 18446744073709551616) : (vputL n).length ≤ 10 := putL_len 9 n (by omega)
theorem putL_mono (m : Nat) : ∀ n : Nat, m ≤ n → (vputL m).length ≤ (vputL n).length := by
  induction m using Nat.strongRecOn with
  | _ m ih =>
    intro n h
    by_cases hm : m < 128
    · rw [putL_small hm]; exact putL_pos n
    · rw [putL_big hm, putL_big (n := n) (by omega)]
      simp only [List.length_cons]
      have := ih (m / 128) (by omega) (n / 128) (by omega)
      omega

/-- The number that bytes begin by, with so many digits already read (i of them, the number acc), and how many bytes; noughts if there is none: as vari.Get has it. -/
def getGo (i acc : Nat) : List Nat → Nat × Nat
  | [] => (0, 0)
  | d :: r =>
    if i = 9 ∧ 1 < d then (0, 0)
    else if 128 ≤ d then getGo (i + 1) (acc + d % 128 * 128 ^ i) r
    else if d = 0 ∧ 0 < i then (0, 0)
    else (acc + d % 128 * 128 ^ i, i + 1)
def getL (b : List Nat) : Nat × Nat := getGo 0 0 b

theorem getGo_zero (i acc : Nat) (b : List Nat) : (getGo i acc b).2 = 0 → (getGo i acc b).1 = 0 := by
  induction b generalizing i acc with
  | nil => intro _; rfl
  | cons d r ih =>
    rw [getGo]
    split
    · intro _; rfl
    · split
      · exact ih _ _
      · split
        · intro _; rfl
        · intro h; simp at h
theorem getL_zero (b : List Nat) (h : (getL b).2 = 0) : (getL b).1 = 0 := getGo_zero 0 0 b h

/-- What is put is read: with i digits of it read. -/
theorem getGo_put (n : Nat) : ∀ (i acc : Nat) (r : List Nat), i ≤ 9 → (0 < i → 0 < n) → n * 128 ^ i < 18446744073709551616 → getGo i acc (vputL n ++ r) = (acc + n * 128 ^ i, i + (vputL n).length) := by
  induction n using Nat.strongRecOn with
  | _ n ih =>
    intro i acc r hi h0 hn
    have e9 : (128 : Nat) ^ 9 = 9223372036854775808 := by decide
    by_cases h : n < 128
    · rw [putL_small h]
      simp only [List.cons_append, List.nil_append, getGo, List.length_cons, List.length_nil]
      rw [if_neg, if_neg (by omega), if_neg (by omega), Nat.mod_eq_of_lt h]
      rintro ⟨rfl, h1⟩
      rw [e9] at hn
      omega
    · have hi9 : i ≠ 9 := by
        rintro rfl
        rw [e9] at hn
        omega
      rw [putL_big h]
      simp only [List.cons_append, getGo, List.length_cons]
      rw [if_neg (by omega), if_pos (by omega)]
      have e : n = n / 128 * 128 + n % 128 := by omega
      have hp : n / 128 * 128 ^ (i + 1) + n % 128 * 128 ^ i = n * 128 ^ i := by
        rw [Nat.pow_succ, Nat.mul_comm (128 ^ i) 128, ← Nat.mul_assoc, ← Nat.add_mul, ← e]
      rw [ih (n / 128) (by omega) (i + 1) _ r (by omega) (by omega) (by omega)]
      refine Prod.ext ?_ ?_
      · show acc + (n % 128 + 128) % 128 * 128 ^ i + n / 128 * 128 ^ (i + 1) = acc + n * 128 ^ i
        have : (n % 128 + 128) % 128 = n % 128 := by omega
        rw [this]; omega
      · show i + 1 + _ = i + (_ + 1)
        omega
theorem getL_put (n : Nat) (r : List Nat) (h : n < 18446744073709551616) : getL (vputL n ++ r) = (n, (vputL n).length) := by
  have := getGo_put n 0 0 r (by omega) (by omega) (by simpa using h)
  simpa [getL] using this

/-- What is read is put as the same bytes: with i digits read, which make acc. -/
theorem getGo_back (b : List Nat) : ∀ (i acc : Nat), i ≤ 9 → (∀ x ∈ b, x < 256) → (getGo i acc b).2 ≠ 0 →
    ∃ m k, getGo i acc b = (acc + m * 128 ^ i, i + k) ∧ k ≤ b.length ∧ 0 < k ∧ vputL m = b.take k ∧ (0 < i → 0 < m) ∧ m * 128 ^ i < 18446744073709551616 ∧ i + k ≤ 10 := by
  have e9 : (128 : Nat) ^ 9 = 9223372036854775808 := by decide
  induction b with
  | nil => intro i acc _ _ h; simp [getGo] at h
  | cons d r ih =>
    intro i acc hi hb h
    have hd : d < 256 := hb d (by simp)
    rw [getGo] at h ⊢
    by_cases h1 : i = 9 ∧ 1 < d
    · rw [if_pos h1] at h; simp at h
    · rw [if_neg h1] at h ⊢
      by_cases h2 : 128 ≤ d
      · rw [if_pos h2] at h ⊢
        obtain ⟨m, k, e, hk, hk0, hp, hm, hb', hik⟩ := ih (i + 1) _ (by omega) (fun x hx => hb x (by simp [hx])) h
        have hm0 := hm (by omega)
        have hs : d % 128 * 128 ^ i + m * 128 ^ (i + 1) = (m * 128 + d % 128) * 128 ^ i := by
          rw [Nat.pow_succ, Nat.mul_comm (128 ^ i) 128, ← Nat.mul_assoc, Nat.add_mul]; omega
        refine ⟨m * 128 + d % 128, k + 1, ?_, ?_, by omega, ?_, by omega, ?_, by omega⟩
        · rw [e, ← hs]
          refine Prod.ext ?_ ?_
          · show acc + d % 128 * 128 ^ i + m * 128 ^ (i + 1) = acc + (d % 128 * 128 ^ i + m * 128 ^ (i + 1)); omega
          · show i + 1 + k = i + (k + 1); omega
        · simp; omega
        · rw [putL_big (by omega)]
          have q1 : (m * 128 + d % 128) % 128 + 128 = d := by omega
          have q2 : (m * 128 + d % 128) / 128 = m := by omega
          rw [q1, q2, hp]; simp
        · -- m * 128^(i+1) < 2^64 with 128^(i+1) a divisor of 2^63 or so
          have hi' : i + 1 ≤ 9 := by omega
          obtain ⟨j, hj⟩ : ∃ j, 9 = (i + 1) + j := ⟨9 - (i + 1), by omega⟩
          have e64 : 18446744073709551616 = 2 * 128 ^ j * 128 ^ (i + 1) := by
            rw [Nat.mul_assoc, ← Nat.pow_add, Nat.add_comm j (i + 1), ← hj, e9]
          have hm2 : m < 2 * 128 ^ j := by
            rw [e64] at hb'
            exact Nat.lt_of_mul_lt_mul_right hb'
          have : (m * 128 + d % 128) * 128 ^ i < (2 * 128 ^ j * 128) * 128 ^ i := by
            apply Nat.mul_lt_mul_of_pos_right (by omega) (Nat.pow_pos (by omega))
          rw [e64, Nat.pow_succ, Nat.mul_comm (128 ^ i) 128, ← Nat.mul_assoc]
          exact this
      · rw [if_neg h2] at h ⊢
        by_cases h3 : d = 0 ∧ 0 < i
        · rw [if_pos h3] at h; simp at h
        · rw [if_neg h3] at h ⊢
          have q : d % 128 = d := by omega
          refine ⟨d, 1, by rw [q], by simp, by omega, by rw [putL_small (by omega)]; simp, by omega, ?_, by omega⟩
          by_cases h9 : i = 9
          · subst h9; rw [e9]; omega
          · have hp : 128 ^ i ≤ 128 ^ 8 := Nat.pow_le_pow_right (by omega) (by omega)
            have e8 : (128 : Nat) ^ 8 = 72057594037927936 := by decide
            rw [e8] at hp
            have : d * 128 ^ i ≤ 127 * 72057594037927936 := Nat.mul_le_mul (by omega) hp
            omega
theorem getL_back (b : List Nat) (hb : ∀ x ∈ b, x < 256) (h : (getL b).2 ≠ 0) :
    (getL b).2 ≤ b.length ∧ (getL b).2 ≤ 10 ∧ vputL (getL b).1 = b.take (getL b).2 ∧ (getL b).1 < 18446744073709551616 := by
  obtain ⟨m, k, e, hk, _, hp, _, hm, hik⟩ := getGo_back b 0 0 (by omega) hb h
  have e' : getL b = (m, k) := by simpa [getL] using e
  rw [e']
  exact ⟨hk, by omega, hp, by simpa using hm⟩
theorem getL_le (b : List Nat) (hb : ∀ x ∈ b, x < 256) : (getL b).2 ≤ b.length ∧ (getL b).2 ≤ 10 ∧ (getL b).1 < 18446744073709551616 := by
  by_cases h : (getL b).2 = 0
  · rw [h, getL_zero b h]; simp
  · have := getL_back b hb h; exact ⟨this.1, this.2.1, this.2.2.2⟩

/-- No beginning of a number's bytes but all of them is a number's. -/
theorem getL_cut (n k : Nat) (hn : n < 18446744073709551616) (hk : k < (vputL n).length) : getL ((vputL n).take k) = (0, 0) := by
  by_cases h : (getL ((vputL n).take k)).2 = 0
  · exact Prod.ext (getL_zero _ h) h
  · exfalso
    have hb := getL_back _ (fun x hx => vputL_byte n x (List.mem_of_mem_take hx)) h
    obtain ⟨h1, _, h3, h4⟩ := hb
    rw [List.length_take] at h1
    have hj : (getL ((vputL n).take k)).2 ≤ k := by omega
    rw [List.take_take, Nat.min_eq_left hj] at h3
    have e : vputL n = vputL (getL ((vputL n).take k)).1 ++ (vputL n).drop (getL ((vputL n).take k)).2 := by
      rw [h3, List.take_append_drop]
    have g1 := getL_put n [] hn
    have g2 := getL_put (getL ((vputL n).take k)).1 ((vputL n).drop (getL ((vputL n).take k)).2) h4
    rw [← e] at g2
    rw [List.append_nil] at g1
    rw [g1] at g2
    have : (vputL n).length = (vputL (getL ((vputL n).take k)).1).length := congrArg Prod.snd g2
    rw [h3, List.length_take] at this
    omega

/-- All numbers of bytes; with so much fuel. -/
def allGo : Nat → List Nat → Option (List Nat)
  | 0, b => if b = [] then some [] else none
  | f + 1, b => if b = [] then some [] else if (getL b).2 = 0 then none else (allGo f (b.drop (getL b).2)).map ((getL b).1 :: ·)
def vallL (b : List Nat) : Option (List Nat) := allGo b.length b

theorem allGo_fuel (f : Nat) : ∀ (g : Nat) (b : List Nat), b.length ≤ f → b.length ≤ g → allGo f b = allGo g b := by
  induction f with
  | zero =>
    intro g b hf hg
    have : b = [] := List.eq_nil_of_length_eq_zero (by omega)
    subst this
    cases g <;> simp [allGo]
  | succ f ih =>
    intro g b hf hg
    cases g with
    | zero =>
      have : b = [] := List.eq_nil_of_length_eq_zero (by omega)
      subst this; simp [allGo]
    | succ g =>
      simp only [allGo]
      by_cases h : b = []
      · simp [h]
      · simp only [h, if_false]
        by_cases h2 : (getL b).2 = 0
        · simp [h2]
        · simp only [h2, if_false]
          rw [ih g (b.drop (getL b).2) (by rw [List.length_drop]; omega) (by rw [List.length_drop]; omega)]
theorem vallL_nil : vallL [] = some [] := by simp [vallL, allGo]
theorem allL_none (b : List Nat) (h : b ≠ []) (h2 : (getL b).2 = 0) : vallL b = none := by
  unfold vallL
  cases hl : b.length with
  | zero => exact absurd (List.eq_nil_of_length_eq_zero hl) h
  | succ n => simp [allGo, h, h2]
theorem allL_some (b : List Nat) (h2 : (getL b).2 ≠ 0) : vallL b = (vallL (b.drop (getL b).2)).map ((getL b).1 :: ·) := by
  unfold vallL
  cases hl : b.length with
  | zero => have := List.eq_nil_of_length_eq_zero hl; subst this; simp [getL, getGo] at h2
  | succ n =>
    have h : b ≠ [] := by rintro rfl; simp at hl
    rw [allGo, if_neg h, if_neg h2]
    rw [allGo_fuel n (b.drop (getL b).2).length _ (by rw [List.length_drop]; omega) (Nat.le_refl _)]

/-- The numbers that the iterator hands on, each with how many bytes it has. -/
def numGo : Nat → List Nat → List (Nat × Nat)
  | 0, _ => []
  | f + 1, b => if b = [] then [] else getL b :: (if (getL b).2 = 0 then [] else numGo f (b.drop (getL b).2))
def numL (b : List Nat) : List (Nat × Nat) := numGo b.length b

theorem numGo_fuel (f : Nat) : ∀ (g : Nat) (b : List Nat), b.length ≤ f → b.length ≤ g → numGo f b = numGo g b := by
  induction f with
  | zero =>
    intro g b hf hg
    have : b = [] := List.eq_nil_of_length_eq_zero (by omega)
    subst this
    cases g <;> simp [numGo]
  | succ f ih =>
    intro g b hf hg
    cases g with
    | zero =>
      have : b = [] := List.eq_nil_of_length_eq_zero (by omega)
      subst this; simp [numGo]
    | succ g =>
      simp only [numGo]
      by_cases h : b = []
      · simp [h]
      · simp only [h, if_false]
        by_cases h2 : (getL b).2 = 0
        · simp [h2]
        · simp only [h2, if_false]
          rw [ih g (b.drop (getL b).2) (by rw [List.length_drop]; omega) (by rw [List.length_drop]; omega)]
theorem numL_nil : numL [] = [] := by simp [numL, numGo]
theorem numL_none (b : List Nat) (h : b ≠ []) (h2 : (getL b).2 = 0) : numL b = [getL b] := by
  unfold numL
  cases hl : b.length with
  | zero => exact absurd (List.eq_nil_of_length_eq_zero hl) h
  | succ n => simp [numGo, h, h2]
theorem numL_some (b : List Nat) (h2 : (getL b).2 ≠ 0) : numL b = getL b :: numL (b.drop (getL b).2) := by
  unfold numL
  cases hl : b.length with
  | zero => have := List.eq_nil_of_length_eq_zero hl; subst this; simp [getL, getGo] at h2
  | succ n =>
    have h : b ≠ [] := by rintro rfl; simp at hl
    rw [numGo, if_neg h, if_neg h2]
    rw [numGo_fuel n (b.drop (getL b).2).length _ (by rw [List.length_drop]; omega) (Nat.le_refl _)]
/-- What the iterator hands on, and all numbers. -/
theorem numL_all (f : Nat) : ∀ b : List Nat, b.length ≤ f → ((∀ p ∈ numL b, p.2 ≠ 0) → vallL b = some ((numL b).map Prod.fst)) ∧ ((∃ p ∈ numL b, p.2 = 0) → vallL b = none) := by
  induction f with
  | zero =>
    intro b hb
    have : b = [] := List.eq_nil_of_length_eq_zero (by omega)
    subst this
    simp [numL_nil, vallL_nil]
  | succ f ih =>
    intro b hb
    by_cases hn : b = []
    · subst hn; simp [numL_nil, vallL_nil]
    · by_cases h2 : (getL b).2 = 0
      · rw [numL_none b hn h2, allL_none b hn h2]
        simp [h2]
      · have ih' := ih (b.drop (getL b).2) (by rw [List.length_drop]; omega)
        rw [numL_some b h2, allL_some b h2]
        constructor
        · intro h
          rw [ih'.1 (fun p hp => h p (by simp [hp]))]
          simp
        · rintro ⟨p, hp, h0⟩
          rw [List.mem_cons] at hp
          rcases hp with rfl | hp
          · exact absurd h0 h2
          · rw [ih'.2 ⟨p, hp, h0⟩]; simp
theorem numL_len (f : Nat) : ∀ b : List Nat, b.length ≤ f → (numL b).length ≤ b.length := by
  induction f with
  | zero =>
    intro b hb
    have : b = [] := List.eq_nil_of_length_eq_zero (by omega)
    subst this; simp [numL_nil]
  | succ f ih =>
    intro b hb
    by_cases hn : b = []
    · subst hn; simp [numL_nil]
    · have hp : 0 < b.length := List.length_pos_iff.2 hn
      by_cases h2 : (getL b).2 = 0
      · rw [numL_none b hn h2]; simp only [List.length_cons, List.length_nil]; omega
      · have ih' := ih (b.drop (getL b).2) (by rw [List.length_drop]; omega)
        rw [numL_some b h2]
        rw [List.length_drop] at ih'
        simp only [List.length_cons]
        omega
end Go.Proofs.Ytpllbjkjlaacjaa
