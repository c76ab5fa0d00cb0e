/- The texts VaPlain, VaZigPlain, VlPlain, ScParse, CrPlain, FrPlain, FrCatPlain, FlPlain, FlCutPlain, CoPlain, CoMore, CoActs, CoProg in one (as far as the seat has what they speak of); what each proves, and its conditions, stands before it. -/
import Derived.Test.YtclbjbhpncpmbaaGreatDoorGPlain
import Derived.Test.YtclbjbhpncpmbaaGreatDoorGGen
/- Numbers as bytes, in plain mathematics: the digits of a number, the number of digits, all numbers of bytes; and how they hang together. No condition but the bounds that each lemma names. -/
namespace Go.Proofs.YtclbjbhpncpmbaaGreatDoor

def vputL (n : Nat) : List Nat := if n < 128 then [n] else (n % 128 + 128) :: vputL (n / 128)
termination_by n
decreasing_by omega

theorem putL_small {n : Nat} (h : n < 128) : vputL n = [n] := by rw [vputL, if_pos h]
theorem putL_big {n : Nat} (h : ¬ n < 128) : vputL n = (n % 128 + 128) :: vputL (n / 128) := by rw [vputL, if_neg h]
theorem putL_pos (n : Nat) : 0 < (vputL n).length := by
  by_cases h : n < 128
  · rw [putL_small h]; simp
  · rw [putL_big h]; simp
theorem vputL_byte (n : Nat) : ∀ x ∈ vputL n, x < 256 := by
  induction n using Nat.strongRecOn with
  | _ n ih =>
    by_cases h : n < 128
    · rw [putL_small h]; simp; omega
    · rw [putL_big h]; simp only [List.mem_cons]; rintro x (rfl | hx)
      · omega
      · exact ih _ (by omega) x hx
theorem putL_len (k : Nat) : ∀ n : Nat, n < 128 ^ (k + 1) → (vputL n).length ≤ k + 1 := by
  induction k with
  | zero => intro n h; rw [putL_small (by simpa using h)]; simp
  | succ k ih =>
    intro n h
    by_cases hs : n < 128
    · rw [putL_small hs]; simp
    · rw [putL_big hs]; simp only [List.length_cons]
      have : n / 128 < 128 ^ (k + 1) := by
        rw [Nat.div_lt_iff_lt_mul (by omega)]; rw [Nat.pow_succ] at h; exact h
      have := ih _ this
      omega
theorem putL_len10 (n : Nat) (h : n < 18446744073709551616) : (vputL n).length ≤ 10 := putL_len 9 n (by omega)
theorem putL_mono (m : Nat) : ∀ n : Nat, m ≤ n → (vputL m).length ≤ (vputL n).length := by
  induction m using Nat.strongRecOn with
  | _ m ih =>
    intro n h
    by_cases hm : m < 128
    · rw [putL_small hm]; exact putL_pos n
    · rw [putL_big hm, putL_big (n := n) (by omega)]
      simp only [List.length_cons]
      have := ih (m / 128) (by omega) (n / 128) (by omega)
      omega

/-- The number that bytes begin by, with so many digits already read (i of them, the number acc), and how many bytes; noughts if there is none: as vari.Get has it. -/
def getGo (i acc : Nat) : List Nat → Nat × Nat
  | [] => (0, 0)
  | d :: r =>
    if i = 9 ∧ 1 < d then (0, 0)
    else if 128 ≤ d then getGo (i + 1) (acc + d % 128 * 128 ^ i) r
    else if d = 0 ∧ 0 < i then (0, 0)
    else (acc + d % 128 * 128 ^ i, i + 1)
def getL (b : List Nat) : Nat × Nat := getGo 0 0 b

theorem getGo_zero (i acc : Nat) (b : List Nat) : (getGo i acc b).2 = 0 → (getGo i acc b).1 = 0 := by
  induction b generalizing i acc with
  | nil => intro _; rfl
  | cons d r ih =>
    rw [getGo]
    split
    · intro _; rfl
    · split
      · exact ih _ _
      · split
        · intro _; rfl
        · intro h; simp at h
theorem getL_zero (b : List Nat) (h : (getL b).2 = 0) : (getL b).1 = 0 := getGo_zero 0 0 b h

/-- What is put is read: with i digits of it read. -/
theorem getGo_put (n : Nat) : ∀ (i acc : Nat) (r : List Nat), i ≤ 9 → (0 < i → 0 < n) → n * 128 ^ i < 18446744073709551616 → getGo i acc (vputL n ++ r) = (acc + n * 128 ^ i, i + (vputL n).length) := by
  induction n using Nat.strongRecOn with
  | _ n ih =>
    intro i acc r hi h0 hn
    have e9 : (128 : Nat) ^ 9 = 9223372036854775808 := by decide
    by_cases h : n < 128
    · rw [putL_small h]
      simp only [List.cons_append, List.nil_append, getGo, List.length_cons, List.length_nil]
      rw [if_neg, if_neg (by omega), if_neg (by omega), Nat.mod_eq_of_lt h]
      rintro ⟨rfl, h1⟩
      rw [e9] at hn
      omega
    · have hi9 : i ≠ 9 := by
        rintro rfl
        rw [e9] at hn
        omega
      rw [putL_big h]
      simp only [List.cons_append, getGo, List.length_cons]
      rw [if_neg (by omega), if_pos (by omega)]
      have e : n = n / 128 * 128 + n % 128 := by omega
      have hp : n / 128 * 128 ^ (i + 1) + n % 128 * 128 ^ i = n * 128 ^ i := by
        rw [Nat.pow_succ, Nat.mul_comm (128 ^ i) 128, ← Nat.mul_assoc, ← Nat.add_mul, ← e]
      rw [ih (n / 128) (by omega) (i + 1) _ r (by omega) (by omega) (by omega)]
      refine Prod.ext ?_ ?_
      · show acc + (n % 128 + 128) % 128 * 128 ^ i + n / 128 * 128 ^ (i + 1) = acc + n * 128 ^ i
        have : (n % 128 + 128) % 128 = n % 128 := by omega
        rw [this]; omega
      · show i + 1 + _ = i + (_ + 1)
        omega
theorem getL_put (n : Nat) (r : List Nat) (h : n < 18446744073709551616) : getL (vputL n ++ r) = (n, (vputL n).length) := by
  have := getGo_put n 0 0 r (by omega) (by omega) (by simpa using h)
  simpa [getL] using this

/-- What is read is put as the same bytes: with i digits read, which make acc. -/
theorem getGo_back (b : List Nat) : ∀ (i acc : Nat), i ≤ 9 → (∀ x ∈ b, x < 256) → (getGo i acc b).2 ≠ 0 →
    ∃ m k, getGo i acc b = (acc + m * 128 ^ i, i + k) ∧ k ≤ b.length ∧ 0 < k ∧ vputL m = b.take k ∧ (0 < i → 0 < m) ∧ m * 128 ^ i < 18446744073709551616 ∧ i + k ≤ 10 := by
  have e9 : (128 : Nat) ^ 9 = 9223372036854775808 := by decide
  induction b with
  | nil => intro i acc _ _ h; simp [getGo] at h
  | cons d r ih =>
    intro i acc hi hb h
    have hd : d < 256 := hb d (by simp)
    rw [getGo] at h ⊢
    by_cases h1 : i = 9 ∧ 1 < d
    · rw [if_pos h1] at h; simp at h
    · rw [if_neg h1] at h ⊢
      by_cases h2 : 128 ≤ d
      · rw [if_pos h2] at h ⊢
        obtain ⟨m, k, e, hk, hk0, hp, hm, hb', hik⟩ := ih (i + 1) _ (by omega) (fun x hx => hb x (by simp [hx])) h
        have hm0 := hm (by omega)
        have hs : d % 128 * 128 ^ i + m * 128 ^ (i + 1) = (m * 128 + d % 128) * 128 ^ i := by
          rw [Nat.pow_succ, Nat.mul_comm (128 ^ i) 128, ← Nat.mul_assoc, Nat.add_mul]; omega
        refine ⟨m * 128 + d % 128, k + 1, ?_, ?_, by omega, ?_, by omega, ?_, by omega⟩
        · rw [e, ← hs]
          refine Prod.ext ?_ ?_
          · show acc + d % 128 * 128 ^ i + m * 128 ^ (i + 1) = acc + (d % 128 * 128 ^ i + m * 128 ^ (i + 1)); omega
          · show i + 1 + k = i + (k + 1); omega
        · simp; omega
        · rw [putL_big (by omega)]
          have q1 : (m * 128 + d % 128) % 128 + 128 = d := by omega
          have q2 : (m * 128 + d % 128) / 128 = m := by omega
          rw [q1, q2, hp]; simp
        · -- m * 128^(i+1) < 2^64 with 128^(i+1) a divisor of 2^63 or so
          have hi' : i + 1 ≤ 9 := by omega
          obtain ⟨j, hj⟩ : ∃ j, 9 = (i + 1) + j := ⟨9 - (i + 1), by omega⟩
          have e64 : 18446744073709551616 = 2 * 128 ^ j * 128 ^ (i + 1) := by
            rw [Nat.mul_assoc, ← Nat.pow_add, Nat.add_comm j (i + 1), ← hj, e9]
          have hm2 : m < 2 * 128 ^ j := by
            rw [e64] at hb'
            exact Nat.lt_of_mul_lt_mul_right hb'
          have : (m * 128 + d % 128) * 128 ^ i < (2 * 128 ^ j * 128) * 128 ^ i := by
            apply Nat.mul_lt_mul_of_pos_right (by omega) (Nat.pow_pos (by omega))
          rw [e64, Nat.pow_succ, Nat.mul_comm (128 ^ i) 128, ← Nat.mul_assoc]
          exact this
      · rw [if_neg h2] at h ⊢
        by_cases h3 : d = 0 ∧ 0 < i
        · rw [if_pos h3] at h; simp at h
        · rw [if_neg h3] at h ⊢
          have q : d % 128 = d := by omega
          refine ⟨d, 1, by rw [q], by simp, by omega, by rw [putL_small (by omega)]; simp, by omega, ?_, by omega⟩
          by_cases h9 : i = 9
          · subst h9; rw [e9]; omega
          · have hp : 128 ^ i ≤ 128 ^ 8 := Nat.pow_le_pow_right (by omega) (by omega)
            have e8 : (128 : Nat) ^ 8 = 72057594037927936 := by decide
            rw [e8] at hp
            have : d * 128 ^ i ≤ 127 * 72057594037927936 := Nat.mul_le_mul (by omega) hp
            omega
theorem getL_back (b : List Nat) (hb : ∀ x ∈ b, x < 256) (h : (getL b).2 ≠ 0) :
    (getL b).2 ≤ b.length ∧ (getL b).2 ≤ 10 ∧ vputL (getL b).1 = b.take (getL b).2 ∧ (getL b).1 < 18446744073709551616 := by
  obtain ⟨m, k, e, hk, _, hp, _, hm, hik⟩ := getGo_back b 0 0 (by omega) hb h
  have e' : getL b = (m, k) := by simpa [getL] using e
  rw [e']
  exact ⟨hk, by omega, hp, by simpa using hm⟩
theorem getL_le (b : List Nat) (hb : ∀ x ∈ b, x < 256) : (getL b).2 ≤ b.length ∧ (getL b).2 ≤ 10 ∧ (getL b).1 < 18446744073709551616 := by
  by_cases h : (getL b).2 = 0
  · rw [h, getL_zero b h]; simp
  · have := getL_back b hb h; exact ⟨this.1, this.2.1, this.2.2.2⟩

/-- No beginning of a number's bytes but all of them is a number's. -/
theorem getL_cut (n k : Nat) (hn : n < 18446744073709551616) (hk : k < (vputL n).length) : getL ((vputL n).take k) = (0, 0) := by
  by_cases h : (getL ((vputL n).take k)).2 = 0
  · exact Prod.ext (getL_zero _ h) h
  · exfalso
    have hb := getL_back _ (fun x hx => vputL_byte n x (List.mem_of_mem_take hx)) h
    obtain ⟨h1, _, h3, h4⟩ := hb
    rw [List.length_take] at h1
    have hj : (getL ((vputL n).take k)).2 ≤ k := by omega
    rw [List.take_take, Nat.min_eq_left hj] at h3
    have e : vputL n = vputL (getL ((vputL n).take k)).1 ++ (vputL n).drop (getL ((vputL n).take k)).2 := by
      rw [h3, List.take_append_drop]
    have g1 := getL_put n [] hn
    have g2 := getL_put (getL ((vputL n).take k)).1 ((vputL n).drop (getL ((vputL n).take k)).2) h4
    rw [← e] at g2
    rw [List.append_nil] at g1
    rw [g1] at g2
    have : (vputL n).length = (vputL (getL ((vputL n).take k)).1).length := congrArg Prod.snd g2
    rw [h3, List.length_take] at this
    omega

/-- All numbers of bytes; with so much fuel. -/
def allGo : Nat → List Nat → Option (List Nat)
  | 0, b => if b = [] then some [] else none
  | f + 1, b => if b = [] then some [] else if (getL b).2 = 0 then none else (allGo f (b.drop (getL b).2)).map ((getL b).1 :: ·)
def vallL (b : List Nat) : Option (List Nat) := allGo b.length b

theorem allGo_fuel (f : Nat) : ∀ (g : Nat) (b : List Nat), b.length ≤ f → b.length ≤ g → allGo f b = allGo g b := by
  induction f with
  | zero =>
    intro g b hf hg
    have : b = [] := List.eq_nil_of_length_eq_zero (by omega)
    subst this
    cases g <;> simp [allGo]
  | succ f ih =>
    intro g b hf hg
    cases g with
    | zero =>
      have : b = [] := List.eq_nil_of_length_eq_zero (by omega)
      subst this; simp [allGo]
    | succ g =>
      simp only [allGo]
      by_cases h : b = []
      · simp [h]
      · simp only [h, if_false]
        by_cases h2 : (getL b).2 = 0
        · simp [h2]
        · simp only [h2, if_false]
          rw [ih g (b.drop (getL b).2) (by rw [List.length_drop]; omega) (by rw [List.length_drop]; omega)]
theorem vallL_nil : vallL [] = some [] := by simp [vallL, allGo]
theorem allL_none (b : List Nat) (h : b ≠ []) (h2 : (getL b).2 = 0) : vallL b = none := by
  unfold vallL
  cases hl : b.length with
  | zero => exact absurd (List.eq_nil_of_length_eq_zero hl) h
  | succ n => simp [allGo, h, h2]
theorem allL_some (b : List Nat) (h2 : (getL b).2 ≠ 0) : vallL b = (vallL (b.drop (getL b).2)).map ((getL b).1 :: ·) := by
  unfold vallL
  cases hl : b.length with
  | zero => have := List.eq_nil_of_length_eq_zero hl; subst this; simp [getL, getGo] at h2
  | succ n =>
    have h : b ≠ [] := by rintro rfl; simp at hl
    rw [allGo, if_neg h, if_neg h2]
    rw [allGo_fuel n (b.drop (getL b).2).length _ (by rw [List.length_drop]; omega) (Nat.le_refl _)]

/-- The numbers that the iterator hands on, each with how many bytes it has. -/
def numGo : Nat → List Nat → List (Nat × Nat)
  | 0, _ => []
  | f + 1, b => if b = [] then [] else getL b :: (if (getL b).2 = 0 then [] else numGo f (b.drop (getL b).2))
def numL (b : List Nat) : List (Nat × Nat) := numGo b.length b

theorem numGo_fuel (f : Nat) : ∀ (g : Nat) (b : List Nat), b.length ≤ f → b.length ≤ g → numGo f b = numGo g b := by
  induction f with
  | zero =>
    intro g b hf hg
    have : b = [] := List.eq_nil_of_length_eq_zero (by omega)
    subst this
    cases g <;> simp [numGo]
  | succ f ih =>
    intro g b hf hg
    cases g with
    | zero =>
      have : b = [] := List.eq_nil_of_length_eq_zero (by omega)
      subst this; simp [numGo]
    | succ g =>
      simp only [numGo]
      by_cases h : b = []
      · simp [h]
      · simp only [h, if_false]
        by_cases h2 : (getL b).2 = 0
        · simp [h2]
        · simp only [h2, if_false]
          rw [ih g (b.drop (getL b).2) (by rw [List.length_drop]; omega) (by rw [List.length_drop]; omega)]
theorem numL_nil : numL [] = [] := by simp [numL, numGo]
theorem numL_none (b : List Nat) (h : b ≠ []) (h2 : (getL b).2 = 0) : numL b = [getL b] := by
  unfold numL
  cases hl : b.length with
  | zero => exact absurd (List.eq_nil_of_length_eq_zero hl) h
  | succ n => simp [numGo, h, h2]
theorem numL_some (b : List Nat) (h2 : (getL b).2 ≠ 0) : numL b = getL b :: numL (b.drop (getL b).2) := by
  unfold numL
  cases hl : b.length with
  | zero => have := List.eq_nil_of_length_eq_zero hl; subst this; simp [getL, getGo] at h2
  | succ n =>
    have h : b ≠ [] := by rintro rfl; simp at hl
    rw [numGo, if_neg h, if_neg h2]
    rw [numGo_fuel n (b.drop (getL b).2).length _ (by rw [List.length_drop]; omega) (Nat.le_refl _)]
/-- What the iterator hands on, and all numbers. -/
theorem numL_all (f : Nat) : ∀ b : List Nat, b.length ≤ f → ((∀ p ∈ numL b, p.2 ≠ 0) → vallL b = some ((numL b).map Prod.fst)) ∧ ((∃ p ∈ numL b, p.2 = 0) → vallL b = none) := by
  induction f with
  | zero =>
    intro b hb
    have : b = [] := List.eq_nil_of_length_eq_zero (by omega)
    subst this
    simp [numL_nil, vallL_nil]
  | succ f ih =>
    intro b hb
    by_cases hn : b = []
    · subst hn; simp [numL_nil, vallL_nil]
    · by_cases h2 : (getL b).2 = 0
      · rw [numL_none b hn h2, allL_none b hn h2]
        simp [h2]
      · have ih' := ih (b.drop (getL b).2) (by rw [List.length_drop]; omega)
        rw [numL_some b h2, allL_some b h2]
        constructor
        · intro h
          rw [ih'.1 (fun p hp => h p (by simp [hp]))]
          simp
        · rintro ⟨p, hp, h0⟩
          rw [List.mem_cons] at hp
          rcases hp with rfl | hp
          · exact absurd h0 h2
          · rw [ih'.2 ⟨p, hp, h0⟩]; simp
theorem numL_len (f : Nat) : ∀ b : List Nat, b.length ≤ f → (numL b).length ≤ b.length := by
  induction f with
  | zero =>
    intro b hb
    have : b = [] := List.eq_nil_of_length_eq_zero (by omega)
    subst this; simp [numL_nil]
  | succ f ih =>
    intro b hb
    by_cases hn : b = []
    · subst hn; simp [numL_nil]
    · have hp : 0 < b.length := List.length_pos_iff.2 hn
      by_cases h2 : (getL b).2 = 0
      · rw [numL_none b hn h2]; simp only [List.length_cons, List.length_nil]; omega
      · have ih' := ih (b.drop (getL b).2) (by rw [List.length_drop]; omega)
        rw [numL_some b h2]
        rw [List.length_drop] at ih'
        simp only [List.length_cons]
        omega
end Go.Proofs.YtclbjbhpncpmbaaGreatDoor

/- Numbers that are below 0 as such that are not, and back, on plain data. No condition. -/
namespace Go.Proofs.YtclbjbhpncpmbaaGreatDoor

def zigV (n : Int) : Int := if 0 ≤ n then 2 * n else 2 * -(n + 1) + 1
def zagV (u : Int) : Int := if u % 2 = 0 then u / 2 else -(u / 2) - 1

theorem zig_range (n : Int) (h0 : -9223372036854775808 ≤ n) (h1 : n ≤ 9223372036854775807) : 0 ≤ zigV n ∧ zigV n ≤ 18446744073709551615 := by
  unfold zigV; split <;> omega
theorem zag_range (u : Int) (h0 : 0 ≤ u) (h1 : u ≤ 18446744073709551615) : -9223372036854775808 ≤ zagV u ∧ zagV u ≤ 9223372036854775807 := by
  unfold zagV; split <;> omega
theorem zag_zig (n : Int) : zagV (zigV n) = n := by
  unfold zagV zigV; split <;> split <;> omega
theorem zig_zag (u : Int) (h0 : 0 ≤ u) : zigV (zagV u) = u := by
  unfold zagV zigV; split <;> split <;> omega
end Go.Proofs.YtclbjbhpncpmbaaGreatDoor

/- Fields' values and their bytes, on plain data: what fits, what is put, what is read, and the laws between these. No condition. -/
namespace Go.Proofs.YtclbjbhpncpmbaaGreatDoor

def putV (k : Int) (v : Vl) : List Nat :=
  if k = 4 then vputL v.2.1.length ++ v.2.1 else if k = 5 then vputL (v.2.2 + 1).toNat else vputL (zigV v.1).toNat
/-- What is put: nothing, if it does not fit. -/
def putVF (k : Int) (v : Vl) : List Nat := if fitsV k v = true then putV k v else []
def getV (k : Int) (bs : List Nat) : Option (Vl × Nat) :=
  if (getL bs).2 = 0 then none
  else if k = 4 then if (getL bs).1 ≤ 12 ∧ (getL bs).2 + (getL bs).1 ≤ bs.length then some ((0, (bs.drop (getL bs).2).take (getL bs).1, 0), (getL bs).2 + (getL bs).1) else none
  else if k = 5 then if (getL bs).1 ≤ 1073741825 then some ((0, [], ((getL bs).1 : Int) - 1), (getL bs).2) else none
  else if fitsV k (zagV ((getL bs).1 : Int), [], 0) = true then some ((zagV ((getL bs).1 : Int), [], 0), (getL bs).2) else none
theorem vl_put_4 (v : Vl) : putV 4 v = vputL v.2.1.length ++ v.2.1 := rfl
theorem vl_put_5 (v : Vl) : putV 5 v = vputL (v.2.2 + 1).toNat := rfl
theorem vl_put_num {k : Int} {v : Vl} (h4 : k ≠ 4) (h5 : k ≠ 5) : putV k v = vputL (zigV v.1).toNat := by rw [putV, if_neg h4, if_neg h5]
theorem putVF_yes {k : Int} {v : Vl} (h : fitsV k v = true) : putVF k v = putV k v := if_pos h
theorem putVF_no {k : Int} {v : Vl} (h : fitsV k v = false) : putVF k v = [] := if_neg (by rw [h]; decide)
theorem vl_get_none {k : Int} {bs : List Nat} (h : (getL bs).2 = 0) : getV k bs = none := if_pos h
theorem vl_get_4 {bs : List Nat} (h : (getL bs).2 ≠ 0) : getV 4 bs = if (getL bs).1 ≤ 12 ∧ (getL bs).2 + (getL bs).1 ≤ bs.length then some ((0, (bs.drop (getL bs).2).take (getL bs).1, 0), (getL bs).2 + (getL bs).1) else none := by
  rw [getV, if_neg h]; rfl
theorem vl_get_5 {bs : List Nat} (h : (getL bs).2 ≠ 0) : getV 5 bs = if (getL bs).1 ≤ 1073741825 then some ((0, [], ((getL bs).1 : Int) - 1), (getL bs).2) else none := by
  rw [getV, if_neg h]; rfl
theorem vl_get_num {k : Int} {bs : List Nat} (h4 : k ≠ 4) (h5 : k ≠ 5) (h : (getL bs).2 ≠ 0) : getV k bs = if fitsV k (zagV ((getL bs).1 : Int), [], 0) = true then some ((zagV ((getL bs).1 : Int), [], 0), (getL bs).2) else none := by
  rw [getV, if_neg h, if_neg h4, if_neg h5]
theorem vl_zig_nat {n : Int} (h0 : -9223372036854775808 ≤ n) (h1 : n ≤ 9223372036854775807) : ∃ u : Nat, zigV n = (u : Int) ∧ u < 18446744073709551616 := by
  have := zig_range n h0 h1
  exact ⟨(zigV n).toNat, by omega, by omega⟩

theorem putV_pos (k : Int) (v : Vl) : 0 < (putV k v).length := by
  by_cases h4 : k = 4
  · subst h4
    have := putL_pos v.2.1.length
    rw [vl_put_4, List.length_append]; omega
  · by_cases h5 : k = 5
    · subst h5; exact putL_pos _
    · rw [vl_put_num h4 h5]; exact putL_pos _
/-- What is put has at most thirteen bytes. -/
theorem putV_len {k : Int} {v : Vl} (hv : OkV v) (h : fitsV k v = true) : (putV k v).length ≤ 13 := by
  by_cases h4 : k = 4
  · subst h4
    rw [vl_fits_4] at h
    have h := (of_decide_eq_true h).1
    rw [vl_put_4, putL_small (by omega)]; simp only [List.length_append, List.length_cons, List.length_nil]; omega
  · by_cases h5 : k = 5
    · subst h5
      rw [vl_fits_5] at h
      have h := of_decide_eq_true h
      have := putL_len10 (v.2.2 + 1).toNat (by omega)
      rw [vl_put_5]; omega
    · obtain ⟨u, hu, hlt⟩ := vl_zig_nat hv.1.1 hv.1.2
      rw [vl_put_num h4 h5, hu]
      have := putL_len10 u hlt
      rw [Int.toNat_natCast]; omega
theorem putVF_len {k : Int} {v : Vl} (hv : OkV v) : (putVF k v).length ≤ 13 := by
  cases h : fitsV k v
  · rw [putVF_no h]; simp
  · rw [putVF_yes h]; exact putV_len hv h
theorem putV_byte {k : Int} {v : Vl} (hv : OkV v) : ∀ x ∈ putV k v, x < 256 := by
  intro x hx
  by_cases h4 : k = 4
  · subst h4
    rw [vl_put_4, List.mem_append] at hx
    exact hx.elim (vputL_byte _ x) (hv.2 x)
  · by_cases h5 : k = 5
    · subst h5; exact vputL_byte _ x hx
    · rw [vl_put_num h4 h5] at hx; exact vputL_byte _ x hx
theorem putVF_byte {k : Int} {v : Vl} (hv : OkV v) : ∀ x ∈ putVF k v, x < 256 := by
  intro x hx
  cases h : fitsV k v
  · rw [putVF_no h] at hx; cases hx
  · rw [putVF_yes h] at hx; exact putV_byte hv x hx
theorem vl_zag_zig_nat {n : Int} {u : Nat} (h : zigV n = (u : Int)) : zagV (u : Int) = n := by rw [← h, zag_zig]

/-- What is put is read, whatever stands behind. -/
theorem vl_get_put {k : Int} {v : Vl} (hv : OkV v) (h : fitsV k v = true) (r : List Nat) : getV k (putV k v ++ r) = some (v, (putV k v).length) := by
  obtain ⟨n, s, d⟩ := v
  by_cases h4 : k = 4
  · subst h4
    rw [vl_fits_4] at h
    obtain ⟨h1, h2, h3⟩ := of_decide_eq_true h
    simp only at h1 h2 h3
    subst h2 h3
    have hg : getL (putV 4 (0, s, 0) ++ r) = (s.length, 1) := by
      rw [vl_put_4, List.append_assoc, getL_put _ _ (by simp only; omega)]
      simp only
      rw [putL_small (by omega)]; rfl
    have hp : putV 4 (0, s, 0) = s.length :: s := by rw [vl_put_4, putL_small (by simp only; omega)]; rfl
    rw [vl_get_4 (by rw [hg]; exact Nat.one_ne_zero), hg, hp]
    rw [if_pos ⟨h1, by simp only [List.length_append, List.length_cons]; omega⟩]
    simp only [List.cons_append, List.drop_succ_cons, List.drop_zero, List.take_left', List.length_cons]
    simp
    omega
  · by_cases h5 : k = 5
    · subst h5
      rw [vl_fits_5] at h
      obtain ⟨h1, h2, h3, h6⟩ := of_decide_eq_true h
      simp only at h1 h2 h3 h6
      subst h3 h6
      have hg : getL (putV 5 (0, [], d) ++ r) = ((d + 1).toNat, (putV 5 (0, [], d)).length) := by
        rw [vl_put_5]; exact getL_put _ _ (by simp only; omega)
      have hp := putV_pos 5 (0, [], d)
      rw [vl_get_5 (by rw [hg]; simp only; omega), hg, if_pos (by simp only; omega)]
      simp only [Option.some.injEq, Prod.mk.injEq, and_true, true_and]
      omega
    · obtain ⟨e1, e2⟩ := vl_fits_num h4 h5 h
      simp only at e1 e2
      subst e1 e2
      obtain ⟨u, hu, hlt⟩ := vl_zig_nat hv.1.1 hv.1.2
      simp only at hu
      have hpp : putV k (n, [], 0) = vputL u := by rw [vl_put_num h4 h5]; simp only; rw [hu, Int.toNat_natCast]
      have hg : getL (putV k (n, [], 0) ++ r) = (u, (putV k (n, [], 0)).length) := by rw [hpp]; exact getL_put _ _ hlt
      have hp := putV_pos k (n, [], 0)
      rw [vl_get_num h4 h5 (by rw [hg]; simp only; omega), hg]
      simp only
      rw [vl_zag_zig_nat hu, if_pos h]
/-- What is read fits, and is put as the same bytes. -/
theorem vl_get_back {k : Int} {bs : List Nat} {v : Vl} {m : Nat} (hb : ∀ x ∈ bs, x < 256) (h : getV k bs = some (v, m)) : fitsV k v = true ∧ m ≤ bs.length ∧ putV k v = bs.take m ∧ OkV v := by
  by_cases h0 : (getL bs).2 = 0
  · rw [vl_get_none h0] at h; cases h
  · obtain ⟨hle, h10, hlt⟩ := getL_le bs hb
    have hback := getL_back bs hb h0
    by_cases h4 : k = 4
    · subst h4
      rw [vl_get_4 h0] at h
      split at h
      case isFalse => cases h
      case isTrue hc =>
        obtain ⟨hc1, hc2⟩ := hc
        simp only [Option.some.injEq, Prod.mk.injEq] at h
        obtain ⟨rfl, rfl⟩ := h
        have hlen : ((bs.drop (getL bs).2).take (getL bs).1).length = (getL bs).1 := by rw [List.length_take, List.length_drop]; omega
        refine ⟨?_, hc2, ?_, ⟨by simp only; omega, fun x hx => hb x (List.mem_of_mem_drop (List.mem_of_mem_take hx))⟩⟩
        · rw [vl_fits_4]; exact decide_eq_true ⟨by simp only; omega, rfl, rfl⟩
        · rw [vl_put_4]; simp only
          rw [hlen, hback.2.2.1, List.take_add]
    · by_cases h5 : k = 5
      · subst h5
        rw [vl_get_5 h0] at h
        split at h
        case isFalse => cases h
        case isTrue hc =>
          simp only [Option.some.injEq, Prod.mk.injEq] at h
          obtain ⟨rfl, rfl⟩ := h
          refine ⟨?_, hle, ?_, ⟨by simp only; omega, fun x hx => by cases hx⟩⟩
          · rw [vl_fits_5]; exact decide_eq_true ⟨by simp only; omega, by simp only; omega, rfl, rfl⟩
          · rw [vl_put_5]; simp only
            rw [show ((getL bs).1 - 1 + 1 : Int).toNat = (getL bs).1 by omega, hback.2.2.1]
      · rw [vl_get_num h4 h5 h0] at h
        split at h
        case isFalse => cases h
        case isTrue hc =>
          simp only [Option.some.injEq, Prod.mk.injEq] at h
          obtain ⟨rfl, rfl⟩ := h
          have hz := zag_range (getL bs).1 (by omega) (by omega)
          refine ⟨hc, hle, ?_, ⟨hz, fun x hx => by cases hx⟩⟩
          rw [vl_put_num h4 h5]; simp only
          rw [zig_zag _ (by omega), Int.toNat_natCast, hback.2.2.1]
/-- No beginning of a value's bytes, but all of them, is one's. -/
theorem vl_get_cut {k : Int} {v : Vl} (hv : OkV v) (h : fitsV k v = true) {j : Nat} (hj : j < (putV k v).length) : getV k ((putV k v).take j) = none := by
  by_cases h4 : k = 4
  · subst h4
    rw [vl_fits_4] at h
    obtain ⟨h1, h2, h3⟩ := of_decide_eq_true h
    have hp : putV 4 v = v.2.1.length :: v.2.1 := by rw [vl_put_4, putL_small (by omega)]; rfl
    rw [hp] at hj ⊢
    rw [List.length_cons] at hj
    cases j with
    | zero => exact vl_get_none rfl
    | succ i =>
      rw [List.take_succ_cons]
      have hg : getL (v.2.1.length :: v.2.1.take i) = (v.2.1.length, 1) := by
        have := getL_put v.2.1.length (v.2.1.take i) (by omega)
        rw [putL_small (by omega)] at this
        exact this
      rw [vl_get_4 (by rw [hg]; exact Nat.one_ne_zero), hg, if_neg]
      rw [List.length_cons, List.length_take]
      simp only
      omega
  · by_cases h5 : k = 5
    · subst h5
      rw [vl_fits_5] at h
      have h := of_decide_eq_true h
      refine vl_get_none ?_
      rw [vl_put_5] at hj ⊢
      rw [getL_cut _ _ (by omega) hj]
    · obtain ⟨u, hu, hlt⟩ := vl_zig_nat hv.1.1 hv.1.2
      refine vl_get_none ?_
      rw [vl_put_num h4 h5, hu, Int.toNat_natCast] at hj ⊢
      rw [getL_cut _ _ hlt hj]
/-- Values that fit, and have the same bytes, are the same. -/
theorem vl_put_inj {k : Int} {v v' : Vl} (hv : OkV v) (hv' : OkV v') (h : fitsV k v = true) (h' : fitsV k v' = true) (he : putV k v = putV k v') : v = v' := by
  have a := vl_get_put hv h []
  have b := vl_get_put hv' h' []
  rw [he, b] at a
  simpa using a.symm
/-- What fits a number of fewer bits fits one of more, with the same bytes. -/
theorem vl_fits_wide {k m : Int} {v : Vl} (h0 : 0 ≤ k) (hkm : k ≤ m) (h3 : m ≤ 3) (h : fitsV k v = true) : fitsV m v = true ∧ putV k v = putV m v := by
  refine ⟨?_, by rw [vl_put_num (by omega) (by omega), vl_put_num (by omega) (by omega)]⟩
  obtain ⟨e1, e2⟩ := vl_fits_num (by omega) (by omega) h
  have hk : k = 0 ∨ k = 1 ∨ k = 2 ∨ k = 3 := by omega
  have hm : m = 0 ∨ m = 1 ∨ m = 2 ∨ m = 3 := by omega
  rcases hm with rfl | rfl | rfl | rfl
  · obtain rfl : k = 0 := by omega
    exact h
  · rcases hk with rfl | rfl | rfl | rfl <;> first | omega | (simp only [vl_fits_0, vl_fits_1, decide_eq_true_eq] at h ⊢; exact ⟨by omega, by omega, e1, e2⟩)
  · rcases hk with rfl | rfl | rfl | rfl <;> first | omega | (simp only [vl_fits_0, vl_fits_1, vl_fits_2, decide_eq_true_eq] at h ⊢; exact ⟨by omega, by omega, e1, e2⟩)
  · rw [vl_fits_3]; exact decide_eq_true ⟨e1, e2⟩
end Go.Proofs.YtclbjbhpncpmbaaGreatDoor

/- Reading a schema's text, as plain functions that go as the program does: cut at the first sign; what is read has the text, and each schema that may be is read of its text. Over no program. No condition. -/
namespace Go.Proofs.YtclbjbhpncpmbaaGreatDoor

/-- What stands ahead of the first m, what behind it, and whether there is one. -/
def cutL (m : Nat) : List Nat → List Nat × List Nat × Bool
  | [] => ([], [], false)
  | c :: l => if c = m then ([], l, true) else (c :: (cutL m l).1, (cutL m l).2.1, (cutL m l).2.2)
theorem cutL_yes {m : Nat} : ∀ {a : List Nat} (b : List Nat), m ∉ a → cutL m (a ++ m :: b) = (a, b, true)
  | [], b, _ => by simp [cutL]
  | c :: a, b, h => by
    have hc : c ≠ m := fun e => h (by simp [e])
    rw [List.cons_append, cutL, if_neg hc, cutL_yes b (fun hm => h (by simp [hm]))]
theorem cutL_no {m : Nat} : ∀ {a : List Nat}, m ∉ a → cutL m a = (a, [], false)
  | [], _ => rfl
  | c :: a, h => by
    have hc : c ≠ m := fun e => h (by simp [e])
    rw [cutL, if_neg hc, cutL_no (fun hm => h (by simp [hm]))]
theorem cutL_back {m : Nat} : ∀ {l : List Nat}, (cutL m l).2.2 = true → l = (cutL m l).1 ++ m :: (cutL m l).2.1
  | [], h => by simp [cutL] at h
  | c :: l, h => by
    rw [cutL] at h ⊢
    by_cases hc : c = m
    · rw [if_pos hc]; simp [hc]
    · rw [if_neg hc] at h ⊢
      have := cutL_back (l := l) h
      simp only [List.cons_append, List.cons.injEq, true_and]
      exact this
theorem cutL_none {m : Nat} : ∀ {l : List Nat}, (cutL m l).2.2 = false → (cutL m l).1 = l ∧ (cutL m l).2.1 = []
  | [], _ => ⟨rfl, rfl⟩
  | c :: l, h => by
    rw [cutL] at h ⊢
    by_cases hc : c = m
    · rw [if_pos hc] at h; cases h
    · rw [if_neg hc] at h ⊢
      have := cutL_none (l := l) h
      exact ⟨by simp [this.1], this.2⟩
theorem cutL_len (m : Nat) (l : List Nat) : (cutL m l).1.length ≤ l.length ∧ (cutL m l).2.1.length ≤ l.length ∧ ((cutL m l).2.2 = true → (cutL m l).2.1.length < l.length) := by
  cases h : (cutL m l).2.2
  · obtain ⟨h1, h2⟩ := cutL_none h
    rw [h1, h2]; simp
  · have h1 := congrArg List.length (cutL_back h)
    rw [List.length_append, List.length_cons] at h1
    refine ⟨by omega, by omega, fun _ => by omega⟩

/-- The kinds from some on, of which a text begins by one's text. -/
def pKs : List Int → List Nat → Option (Int × List Nat)
  | [], _ => none
  | k :: ks, b => if (kindT k).isPrefixOf b = true then some (k, b.drop (kindT k).length) else pKs ks b
abbrev allK : List Int := [0, 1, 2, 3, 4, 5]
def pF (l : List Nat) : Option Fld := if (cutL 58 l).2.2 = true then (pKs allK (cutL 58 l).2.1).map (fun x => ((cutL 58 l).1, x.1, x.2)) else none
def pFs : Nat → List Nat → Option (List Fld)
  | 0, _ => none
  | n + 1, l => match pF (cutL 44 l).1 with
    | none => none
    | some f => if (cutL 44 l).2.2 = true then (pFs n (cutL 44 l).2.1).map (f :: ·) else some [f]
def readF (l : List Nat) : Option (List Fld) := if l = [] then some [] else pFs 5 l
def pT (l : List Nat) : Option (Typ × List Nat) :=
  if (cutL 123 l).2.2 = true ∧ (cutL 125 (cutL 123 l).2.1).2.2 = true then (readF (cutL 125 (cutL 123 l).2.1).1).map (fun fs => (((cutL 123 l).1, fs), (cutL 125 (cutL 123 l).2.1).2.1)) else none
def pTs : Nat → List Nat → Option Sch
  | 0, l => if l = [] then some [] else none
  | n + 1, l => if l = [] then some [] else match pT l with
    | none => none
    | some x => (pTs n x.2).map (x.1 :: ·)
def readS (l : List Nat) : Option Sch := match pTs 4 l with
  | none => none
  | some s => if mayS s = true then some s else none

theorem pKs_sound : ∀ {ks : List Int} {b : List Nat} {x : Int × List Nat}, pKs ks b = some x → x.1 ∈ ks ∧ kindT x.1 ++ x.2 = b
  | [], b, x, h => by cases h
  | k :: ks, b, x, h => by
    rw [pKs] at h
    by_cases hp : (kindT k).isPrefixOf b = true
    · rw [if_pos hp] at h
      injection h with h
      subst h
      obtain ⟨r, rfl⟩ := List.isPrefixOf_iff_prefix.1 hp
      exact ⟨by simp, by simp⟩
    · rw [if_neg hp] at h
      obtain ⟨h1, h2⟩ := pKs_sound h
      exact ⟨by simp [h1], h2⟩
theorem pKs_full {k : Int} (hk : 0 ≤ k ∧ k < 6) (a : List Nat) : pKs allK (kindT k ++ a) = some (k, a) := by
  have h6 : k = 0 ∨ k = 1 ∨ k = 2 ∨ k = 3 ∨ k = 4 ∨ k = 5 := by omega
  rcases h6 with rfl | rfl | rfl | rfl | rfl | rfl <;> simp [pKs, kindT]
theorem pF_sound {l : List Nat} {f : Fld} (h : pF l = some f) : fText f = l ∧ 0 ≤ f.2.1 ∧ f.2.1 < 6 := by
  rw [pF] at h
  by_cases hc : (cutL 58 l).2.2 = true
  · rw [if_pos hc, Option.map_eq_some_iff] at h
    obtain ⟨x, hx, rfl⟩ := h
    obtain ⟨h1, h2⟩ := pKs_sound hx
    refine ⟨?_, by simp at h1; show 0 ≤ x.1 ∧ x.1 < 6; omega⟩
    rw [fText]
    show (cutL 58 l).1 ++ 58 :: (kindT x.1 ++ x.2) = l
    rw [h2]
    exact (cutL_back hc).symm
  · rw [if_neg hc] at h; cases h
theorem pF_full {f : Fld} (h : goodF f) : pF (fText f) = some f := by
  have hc : cutL 58 (fText f) = (f.1, kindT f.2.1 ++ f.2.2, true) := cutL_yes _ (fun hm => (h.1.2 _ hm).2.1 rfl)
  rw [pF, hc, if_pos rfl, pKs_full h.2.1]
  rfl
theorem pFs_sound : ∀ {n : Nat} {l : List Nat} {fs : List Fld}, pFs n l = some fs → fs ≠ [] ∧ fs.length ≤ n ∧ fsText fs = l ∧ ∀ f ∈ fs, 0 ≤ f.2.1 ∧ f.2.1 < 6
  | 0, l, fs, h => by cases h
  | n + 1, l, fs, h => by
    rw [pFs] at h
    cases hf : pF (cutL 44 l).1 with
    | none => rw [hf] at h; cases h
    | some f =>
      rw [hf] at h
      obtain ⟨h1, h2⟩ := pF_sound hf
      by_cases hc : (cutL 44 l).2.2 = true
      · simp only [hc, if_true, Option.map_eq_some_iff] at h
        obtain ⟨r, hr, rfl⟩ := h
        obtain ⟨h3, h4, h5, h6⟩ := pFs_sound hr
        refine ⟨by simp, by simp; omega, ?_, fun g hg => ?_⟩
        · obtain ⟨g, r', rfl⟩ := List.exists_cons_of_ne_nil h3
          rw [fsText_two, h1, h5]
          exact (cutL_back hc).symm
        · rcases List.mem_cons.1 hg with rfl | hg
          · exact h2
          · exact h6 g hg
      · have hc' : (cutL 44 l).2.2 = false := by simpa using hc
        simp only [hc', Bool.false_eq_true, if_false] at h
        injection h with h
        subst h
        exact ⟨by simp, by simp, by rw [fsText_one, h1]; exact (cutL_none hc').1, fun g hg => by simp at hg; subst hg; exact h2⟩
theorem pFs_full : ∀ {n : Nat} {fs : List Fld}, fs ≠ [] → fs.length ≤ n → (∀ f ∈ fs, goodF f) → pFs n (fsText fs) = some fs
  | 0, fs, h, hl, _ => absurd (List.eq_nil_of_length_eq_zero (by omega)) h
  | n + 1, [], h, _, _ => absurd rfl h
  | n + 1, [f], _, _, hg => by
    have h1 := hg f (by simp)
    have hc : cutL 44 (fsText [f]) = (fText f, [], false) := cutL_no (fun hm => (fText_no h1 _ hm).1 rfl)
    rw [pFs, hc]
    simp only [pF_full h1]
    rfl
  | n + 1, f :: g :: r, _, hl, hg => by
    have h1 := hg f (by simp)
    have hc : cutL 44 (fsText (f :: g :: r)) = (fText f, fsText (g :: r), true) := by rw [fsText_two]; exact cutL_yes _ (fun hm => (fText_no h1 _ hm).1 rfl)
    have ih := pFs_full (n := n) (fs := g :: r) (by simp) (by simp at hl ⊢; omega) (fun x hx => hg x (List.mem_cons_of_mem _ hx))
    rw [pFs, hc]
    simp only [pF_full h1, ih]
    rfl
theorem readF_sound {l : List Nat} {fs : List Fld} (h : readF l = some fs) : fs.length ≤ 5 ∧ fsText fs = l ∧ ∀ f ∈ fs, 0 ≤ f.2.1 ∧ f.2.1 < 6 := by
  rw [readF] at h
  by_cases hl : l = []
  · rw [if_pos hl] at h
    injection h with h
    subst h hl
    exact ⟨by simp, rfl, by simp⟩
  · rw [if_neg hl] at h
    exact (pFs_sound h).2
theorem fsText_nil {fs : List Fld} (h : fs ≠ []) : fsText fs ≠ [] := by
  match fs, h with
  | [f], _ => exact fText_ne f
  | f :: g :: r, _ => rw [fsText_two]; simp
theorem readF_full {fs : List Fld} (hl : fs.length ≤ 5) (hg : ∀ f ∈ fs, goodF f) : readF (fsText fs) = some fs := by
  rw [readF]
  by_cases h : fs = []
  · subst h; rfl
  · rw [if_neg (fsText_nil h), pFs_full h hl hg]
theorem pT_sound {l : List Nat} {x : Typ × List Nat} (h : pT l = some x) : tText x.1 ++ x.2 = l := by
  rw [pT] at h
  by_cases hc : (cutL 123 l).2.2 = true ∧ (cutL 125 (cutL 123 l).2.1).2.2 = true
  · rw [if_pos hc, Option.map_eq_some_iff] at h
    obtain ⟨fs, hfs, rfl⟩ := h
    obtain ⟨_, h2, _⟩ := readF_sound hfs
    rw [tText]
    show ((cutL 123 l).1 ++ 123 :: (fsText fs ++ [125])) ++ (cutL 125 (cutL 123 l).2.1).2.1 = l
    rw [h2, List.append_assoc, List.cons_append, List.append_assoc, List.singleton_append, ← cutL_back hc.2, ← cutL_back hc.1]
  · rw [if_neg hc] at h; cases h
theorem pT_full {t : Typ} (h : goodT t) (hl : t.2.length ≤ 5) (r : List Nat) : pT (tText t ++ r) = some (t, r) := by
  have e : tText t ++ r = t.1 ++ 123 :: (fsText t.2 ++ 125 :: r) := by rw [tText, List.append_assoc, List.cons_append, List.append_assoc, List.singleton_append]
  have h1 : cutL 123 (tText t ++ r) = (t.1, fsText t.2 ++ 125 :: r, true) := by rw [e]; exact cutL_yes _ (fun hm => (h.1.2 _ hm).2.2.1 rfl)
  have h2 : cutL 125 (fsText t.2 ++ 125 :: r) = (fsText t.2, r, true) := cutL_yes _ (fun hm => (fsText_no h.2 _ hm).2 rfl)
  rw [pT, h1]
  simp only [h2, and_self, if_true, readF_full hl h.2]
  rfl
theorem pT_less {l : List Nat} {x : Typ × List Nat} (h : pT l = some x) : x.2.length < l.length := by
  rw [← pT_sound h, List.length_append, tText, List.length_append, List.length_cons]
  omega
theorem pTs_sound : ∀ {n : Nat} {l : List Nat} {s : Sch}, pTs n l = some s → sText s = l ∧ s.length ≤ n
  | 0, l, s, h => by
    rw [pTs] at h
    by_cases hl : l = []
    · rw [if_pos hl] at h
      injection h with h
      subst h hl
      exact ⟨rfl, Nat.le_refl _⟩
    · rw [if_neg hl] at h; cases h
  | n + 1, l, s, h => by
    rw [pTs] at h
    by_cases hl : l = []
    · rw [if_pos hl] at h
      injection h with h
      subst h hl
      exact ⟨rfl, Nat.zero_le _⟩
    · rw [if_neg hl] at h
      cases ht : pT l with
      | none => rw [ht] at h; cases h
      | some x =>
        rw [ht] at h
        simp only [Option.map_eq_some_iff] at h
        obtain ⟨r, hr, rfl⟩ := h
        obtain ⟨h1, h2⟩ := pTs_sound hr
        exact ⟨by rw [sText, h1, pT_sound ht], by simp; omega⟩
theorem pTs_full : ∀ {n : Nat} {s : Sch}, goodS s → s.length ≤ n → (∀ t ∈ s, t.2.length ≤ 5) → pTs n (sText s) = some s
  | 0, [], _, _, _ => rfl
  | 0, t :: s, _, h, _ => by simp at h
  | n + 1, [], _, _, _ => rfl
  | n + 1, t :: s, hg, hl, hf => by
    have ih := pTs_full (n := n) (s := s) (fun x hx => hg x (by simp [hx])) (by simp at hl; omega) (fun x hx => hf x (by simp [hx]))
    rw [pTs, if_neg (sText_ne (by simp)), sText, pT_full (hg t (by simp)) (hf t (by simp))]
    simp only [ih]
    rfl
theorem readS_iff (l : List Nat) (s : Sch) : readS l = some s ↔ mayS s = true ∧ sText s = l := by
  constructor
  · intro h
    rw [readS] at h
    cases hp : pTs 4 l with
    | none => rw [hp] at h; cases h
    | some r =>
      rw [hp] at h
      by_cases hm : mayS r = true
      · simp only [hm, if_true] at h
        injection h with h
        subst h
        exact ⟨hm, (pTs_sound hp).1⟩
      · simp only [hm] at h; cases h
  · rintro ⟨hm, rfl⟩
    obtain ⟨hl, h2⟩ := (mayS_iff s).1 hm
    have := pTs_full (n := 4) (mayS_good hm) hl.2 fun t ht => by
      obtain ⟨i, hi⟩ := List.getElem?_of_mem ht
      exact ((mayT_iff s i t).1 (h2 i t hi)).2.2.1
    rw [readS, this]
    simp only [hm, if_true]
theorem readS_none {l : List Nat} (h : readS l = none) (s : Sch) (hs : mayS s = true) : sText s ≠ l := fun e => by
  rw [(readS_iff l s).2 ⟨hs, e⟩] at h; cases h
theorem readS_text (s : Sch) : readS (textS s) = if mayS s = true then some s else none := by
  by_cases h : mayS s = true
  · rw [if_pos h, textS_may h]
    exact (readS_iff _ _).2 ⟨h, rfl⟩
  · have h' : mayS s = false := by simpa using h
    rw [if_neg h, textS_not h']
    rfl
end Go.Proofs.YtclbjbhpncpmbaaGreatDoor

/- The plain mathematics of sums of bytes: halvings, the sum, what is sealed, what is good; linearity, and that nothing is lost. No condition. -/
namespace Go.Proofs.YtclbjbhpncpmbaaGreatDoor

/-- One halving, with the pattern turned round where the lowest bit was 1. -/
def hv (n : Nat) : Nat := if n % 2 = 0 then n / 2 else n / 2 ^^^ 3988292384
def hvN : Nat → Nat → Nat
  | 0, n => n
  | k + 1, n => hvN k (hv n)
def stp (n d : Nat) : Nat := hvN 8 (n ^^^ d)
def fol (n : Nat) (bs : List Nat) : Nat := bs.foldl stp n
def flip32 (n : Nat) : Nat := n ^^^ 4294967295
def withL (s : Nat) (bs : List Nat) : Nat := flip32 (fol (flip32 s) bs)
def sumL (bs : List Nat) : Nat := withL 0 bs
def le4 (n : Nat) : List Nat := [n % 256, n / 256 % 256, n / 65536 % 256, n / 16777216 % 256]
def sealL (bs : List Nat) : List Nat := bs ++ le4 (sumL bs)
def goodL (bs : List Nat) : Bool := decide (4 ≤ bs.length) && (bs.drop (bs.length - 4) == le4 (sumL (bs.take (bs.length - 4))))
/-- Bytes as one number, the lowest one first. -/
def val : List Nat → Nat
  | [] => 0
  | d :: r => d + 256 * val r

theorem xor4 (a b c d : Nat) : a ^^^ b ^^^ (c ^^^ d) = a ^^^ c ^^^ (b ^^^ d) := by
  rw [Nat.xor_assoc, Nat.xor_assoc, ← Nat.xor_assoc b, ← Nat.xor_assoc c, Nat.xor_comm b c]
theorem xor_cancel {a b : Nat} (h : a ^^^ b = 0) : a = b := by
  have : a ^^^ b ^^^ b = 0 ^^^ b := by rw [h]
  rw [Nat.xor_assoc, Nat.xor_self, Nat.xor_zero, Nat.zero_xor] at this
  exact this
theorem xor_right_inj {a b c : Nat} (h : a ^^^ c = b ^^^ c) : a = b := by
  have : a ^^^ c ^^^ c = b ^^^ c ^^^ c := by rw [h]
  rwa [Nat.xor_assoc, Nat.xor_self, Nat.xor_zero, Nat.xor_assoc, Nat.xor_self, Nat.xor_zero] at this
theorem xor_lt32 {a b : Nat} (ha : a < 4294967296) (hb : b < 4294967296) : a ^^^ b < 4294967296 :=
  Nat.xor_lt_two_pow (n := 32) ha hb
theorem xor_lt8 {a b : Nat} (ha : a < 256) (hb : b < 256) : a ^^^ b < 256 :=
  Nat.xor_lt_two_pow (n := 8) ha hb
theorem xor_mul_pow (a b k : Nat) : (a ^^^ b) * 2 ^ k = a * 2 ^ k ^^^ b * 2 ^ k := by
  rw [← Nat.shiftLeft_eq, ← Nat.shiftLeft_eq, ← Nat.shiftLeft_eq, Nat.shiftLeft_xor_distrib]
/-- Below a power of two, and a multiple of it: the sum is what is odd of both. -/
theorem add_eq_xor {a b k : Nat} (ha : a < 2 ^ k) : a + 2 ^ k * b = a ^^^ 2 ^ k * b := by
  apply Nat.eq_of_testBit_eq
  intro i
  rw [Nat.testBit_xor, Nat.add_comm, Nat.testBit_two_pow_mul_add _ ha, Nat.testBit_two_pow_mul]
  by_cases h : i < k
  · simp [h, Nat.not_le.2 h]
  · have : a.testBit i = false := Nat.testBit_lt_two_pow (Nat.lt_of_lt_of_le ha (Nat.pow_le_pow_right (by omega) (by omega)))
    simp [h, this, Nat.not_lt.1 h]

theorem xor_mod2 (a b : Nat) : (a ^^^ b) % 2 = (a + b) % 2 := by
  have h := Nat.xor_mod_two_pow (a := a) (b := b) (n := 1)
  rw [show (2 : Nat) ^ 1 = 2 from rfl] at h
  rw [h]
  rcases Nat.mod_two_eq_zero_or_one a with ha | ha <;> rcases Nat.mod_two_eq_zero_or_one b with hb | hb <;> rw [ha, hb] <;> simp <;> omega
theorem hv_xor (a b : Nat) : hv (a ^^^ b) = hv a ^^^ hv b := by
  have h1 : (a ^^^ b) / 2 = a / 2 ^^^ b / 2 := Nat.xor_div_two
  have h2 : (a ^^^ b) % 2 = (a + b) % 2 := xor_mod2 _ _
  unfold hv
  rw [h1, h2]
  by_cases ha : a % 2 = 0 <;> by_cases hb : b % 2 = 0
  · rw [if_pos (by omega), if_pos ha, if_pos hb]
  · rw [if_neg (by omega), if_pos ha, if_neg hb, Nat.xor_assoc]
  · rw [if_neg (by omega), if_neg ha, if_pos hb, Nat.xor_assoc, Nat.xor_assoc, Nat.xor_comm (b / 2)]
  · rw [if_pos (by omega), if_neg ha, if_neg hb, xor4, Nat.xor_self, Nat.xor_zero]
theorem hv_even (m : Nat) : hv (2 * m) = m := by
  unfold hv; rw [if_pos (by omega)]; omega
theorem hv_lt {n : Nat} (h : n < 4294967296) : hv n < 4294967296 := by
  unfold hv; split
  · omega
  · exact xor_lt32 (by omega) (by omega)
theorem hv_zero {n : Nat} (h : n < 4294967296) (h0 : hv n = 0) : n = 0 := by
  unfold hv at h0; split at h0
  · omega
  · have := xor_cancel h0; omega

theorem hvN_xor : ∀ (k a b : Nat), hvN k (a ^^^ b) = hvN k a ^^^ hvN k b
  | 0, _, _ => rfl
  | k + 1, a, b => by rw [hvN, hvN, hvN, hv_xor, hvN_xor k]
theorem hvN_lt : ∀ (k : Nat) {n : Nat}, n < 4294967296 → hvN k n < 4294967296
  | 0, _, h => h
  | k + 1, _, h => hvN_lt k (hv_lt h)
theorem hvN_zero : ∀ (k : Nat) {n : Nat}, n < 4294967296 → hvN k n = 0 → n = 0
  | 0, _, _, h0 => h0
  | k + 1, _, h, h0 => hv_zero h (hvN_zero k (hv_lt h) h0)
theorem hvN_inj (k : Nat) {a b : Nat} (ha : a < 4294967296) (hb : b < 4294967296) (h : hvN k a = hvN k b) : a = b := by
  apply xor_cancel
  apply hvN_zero k (xor_lt32 ha hb)
  rw [hvN_xor, h, Nat.xor_self]
theorem hvN_pow : ∀ (k m : Nat), hvN k (2 ^ k * m) = m
  | 0, m => by simp [hvN]
  | k + 1, m => by rw [hvN, Nat.pow_succ, Nat.mul_comm (2 ^ k) 2, Nat.mul_assoc, hv_even, hvN_pow k]
theorem hvN_add : ∀ (j k n : Nat), hvN (j + k) n = hvN k (hvN j n)
  | 0, k, n => by rw [Nat.zero_add]; rfl
  | j + 1, k, n => by rw [Nat.add_right_comm, hvN, hvN, hvN_add j k]

/-- Eight bits at once: what the table tells of the lowest byte, and the rest moved down. -/
theorem stp_table (n d : Nat) : stp n d = n / 256 ^^^ hvN 8 (n % 256 ^^^ d) := by
  have e : n = n % 256 ^^^ 256 * (n / 256) := by
    have h := add_eq_xor (a := n % 256) (b := n / 256) (k := 8) (Nat.mod_lt _ (by decide))
    rw [show (2 : Nat) ^ 8 = 256 from rfl] at h
    rw [← h]; omega
  unfold stp
  conv => lhs; rw [e]
  rw [Nat.xor_comm (n % 256), Nat.xor_assoc, hvN_xor, show (256 : Nat) = 2 ^ 8 from rfl, hvN_pow]
theorem stp_lt {n d : Nat} (hn : n < 4294967296) (hd : d < 256) : stp n d < 4294967296 := hvN_lt 8 (xor_lt32 hn (by omega))
theorem fol_lt : ∀ (bs : List Nat) {n : Nat}, n < 4294967296 → (∀ x ∈ bs, x < 256) → fol n bs < 4294967296
  | [], _, h, _ => h
  | d :: r, _, h, hb => fol_lt r (stp_lt h (hb d (by simp))) (fun x hx => hb x (by simp [hx]))
theorem flip_lt {n : Nat} (h : n < 4294967296) : flip32 n < 4294967296 := xor_lt32 h (by omega)
theorem flip_flip (n : Nat) : flip32 (flip32 n) = n := by unfold flip32; rw [Nat.xor_assoc, Nat.xor_self, Nat.xor_zero]
theorem flip_inj {a b : Nat} (h : flip32 a = flip32 b) : a = b := xor_right_inj h
theorem withL_lt {s : Nat} {bs : List Nat} (h : s < 4294967296) (hb : ∀ x ∈ bs, x < 256) : withL s bs < 4294967296 := flip_lt (fol_lt bs (flip_lt h) hb)
theorem sumL_lt {bs : List Nat} (hb : ∀ x ∈ bs, x < 256) : sumL bs < 4294967296 := withL_lt (by omega) hb
theorem fol_append (n : Nat) (a b : List Nat) : fol n (a ++ b) = fol (fol n a) b := by simp [fol, List.foldl_append]
theorem withL_nil (s : Nat) : withL s [] = s := flip_flip s
theorem withL_append (s : Nat) (a b : List Nat) : withL s (a ++ b) = withL (withL s a) b := by unfold withL; rw [flip_flip, fol_append]

/-- The fold over bytes, by the one number that they are. -/
theorem fol_val : ∀ (bs : List Nat) (n : Nat), (∀ x ∈ bs, x < 256) → fol n bs = hvN (8 * bs.length) (n ^^^ val bs)
  | [], n, _ => by simp [fol, val, hvN]
  | d :: r, n, hb => by
    have hd : d < 2 ^ 8 := hb d (by simp)
    show fol (stp n d) r = _
    rw [fol_val r _ (fun x hx => hb x (by simp [hx])), List.length_cons, Nat.mul_add, Nat.add_comm (8 * r.length), Nat.mul_one, hvN_add, val]
    congr 1
    rw [show (256 : Nat) = 2 ^ 8 from rfl, add_eq_xor hd, ← Nat.xor_assoc, hvN_xor 8 (n ^^^ d), hvN_pow]; rfl
theorem fol_inj (bs : List Nat) {a b : Nat} (hb : ∀ x ∈ bs, x < 256) (ha : a < 4294967296) (hb' : b < 4294967296) (h : fol a bs = fol b bs) : a = b := by
  rw [fol_val bs a hb, fol_val bs b hb, hvN_xor, hvN_xor] at h
  exact hvN_inj _ ha hb' (xor_right_inj h)
theorem withL_inj (bs : List Nat) {a b : Nat} (hb : ∀ x ∈ bs, x < 256) (ha : a < 4294967296) (hb' : b < 4294967296) (h : withL a bs = withL b bs) : a = b :=
  flip_inj (fol_inj bs hb (flip_lt ha) (flip_lt hb') (flip_inj h))
theorem stp_inj {n d e : Nat} (hn : n < 4294967296) (hd : d < 256) (he : e < 256) (h : stp n d = stp n e) : d = e := by
  have := hvN_inj 8 (xor_lt32 hn (by omega)) (xor_lt32 hn (by omega)) h
  rw [Nat.xor_comm n, Nat.xor_comm n] at this
  exact xor_right_inj this
theorem sum_other (p r : List Nat) {d e : Nat} (hp : ∀ x ∈ p, x < 256) (hr : ∀ x ∈ r, x < 256) (hd : d < 256) (he : e < 256) (h : sumL (p ++ d :: r) = sumL (p ++ e :: r)) : d = e := by
  unfold sumL withL at h
  have h := flip_inj h
  rw [fol_append, fol_append] at h
  have hl := fol_lt p (n := flip32 0) (by decide) hp
  exact stp_inj hl hd he (fol_inj r hr (stp_lt hl hd) (stp_lt hl he) h)

/-- Of three of as many bytes: what is odd. -/
def xor3 : List Nat → List Nat → List Nat → List Nat
  | a :: p, b :: q, c :: r => (a ^^^ b ^^^ c) :: xor3 p q r
  | _, _, _ => []
theorem stp3 (x y z a b c : Nat) : stp (x ^^^ y ^^^ z) (a ^^^ b ^^^ c) = stp x a ^^^ stp y b ^^^ stp z c := by
  unfold stp
  rw [← hvN_xor, ← hvN_xor]
  congr 1
  rw [xor4 (x ^^^ y), xor4 x]
theorem fol3 : ∀ (p q r : List Nat) (x y z : Nat), q.length = p.length → r.length = p.length → fol (x ^^^ y ^^^ z) (xor3 p q r) = fol x p ^^^ fol y q ^^^ fol z r
  | [], [], [], _, _, _, _, _ => rfl
  | a :: p, b :: q, c :: r, x, y, z, h1, h2 => by
    simp only [List.length_cons, Nat.add_right_cancel_iff] at h1 h2
    show fol (stp (x ^^^ y ^^^ z) (a ^^^ b ^^^ c)) (xor3 p q r) = fol (stp x a) p ^^^ fol (stp y b) q ^^^ fol (stp z c) r
    rw [stp3, fol3 p q r _ _ _ h1 h2]
  | [], _ :: _, _, _, _, _, h, _ => by simp at h
  | [], [], _ :: _, _, _, _, _, h => by simp at h
  | _ :: _, [], _, _, _, _, h, _ => by simp at h
  | _ :: _, _ :: _, [], _, _, _, _, h => by simp at h
theorem sum3 (p q r : List Nat) (h1 : q.length = p.length) (h2 : r.length = p.length) : sumL (xor3 p q r) = sumL p ^^^ sumL q ^^^ sumL r := by
  have h := fol3 p q r (flip32 0) (flip32 0) (flip32 0) h1 h2
  have e : flip32 0 ^^^ flip32 0 ^^^ flip32 0 = flip32 0 := by decide
  rw [e] at h
  unfold sumL withL
  rw [h]
  generalize fol (flip32 0) p = u
  generalize fol (flip32 0) q = v
  generalize fol (flip32 0) r = t
  unfold flip32
  rw [xor4 u, Nat.xor_self, Nat.xor_zero, Nat.xor_assoc]
theorem xor3_length : ∀ (p q r : List Nat), q.length = p.length → r.length = p.length → (xor3 p q r).length = p.length
  | [], [], [], _, _ => rfl
  | a :: p, b :: q, c :: r, h1, h2 => by
    simp only [List.length_cons, Nat.add_right_cancel_iff] at h1 h2
    simp only [xor3, List.length_cons, xor3_length p q r h1 h2]
  | [], _ :: _, _, h, _ => by simp at h
  | [], [], _ :: _, _, h => by simp at h
  | _ :: _, [], _, h, _ => by simp at h
  | _ :: _, _ :: _, [], _, h => by simp at h
theorem xor3_take : ∀ (p q r : List Nat) (k : Nat), k < p.length → q.length = p.length → r.length = p.length → xor3 (p.take (k + 1)) (q.take (k + 1)) (r.take (k + 1)) = xor3 (p.take k) (q.take k) (r.take k) ++ [p.getD k 0 ^^^ q.getD k 0 ^^^ r.getD k 0]
  | a :: p, b :: q, c :: r, 0, _, _, _ => by simp [xor3]
  | a :: p, b :: q, c :: r, k + 1, h, h1, h2 => by
    simp only [List.length_cons, Nat.add_right_cancel_iff] at h1 h2
    have := xor3_take p q r k (by simpa using h) h1 h2
    simp only [List.take_succ_cons, xor3, List.cons_append, List.getD_cons_succ] at this ⊢
    rw [this]
  | [], _, _, _, h, _, _ => by simp at h
  | _ :: _, [], _, _, _, h, _ => by simp at h
  | _ :: _, _ :: _, [], _, _, _, h => by simp at h
theorem xor3_byte : ∀ (p q r : List Nat), (∀ x ∈ p, x < 256) → (∀ x ∈ q, x < 256) → (∀ x ∈ r, x < 256) → ∀ x ∈ xor3 p q r, x < 256
  | a :: p, b :: q, c :: r, h1, h2, h3 => by
    intro x hx
    simp only [xor3, List.mem_cons] at hx
    rcases hx with rfl | hx
    · exact xor_lt8 (xor_lt8 (h1 a (by simp)) (h2 b (by simp))) (h3 c (by simp))
    · exact xor3_byte p q r (fun x h => h1 x (by simp [h])) (fun x h => h2 x (by simp [h])) (fun x h => h3 x (by simp [h])) x hx
  | [], _, _, _, _, _ => by simp [xor3]
  | _ :: _, [], _, _, _, _ => by simp [xor3]
  | _ :: _, _ :: _, [], _, _, _ => by simp [xor3]

theorem le4_byte (n : Nat) : ∀ x ∈ le4 n, x < 256 := by
  intro x hx
  simp only [le4, List.mem_cons, List.not_mem_nil, or_false] at hx
  omega
theorem le4_length (n : Nat) : (le4 n).length = 4 := rfl
theorem val_le4 {n : Nat} (h : n < 4294967296) : val (le4 n) = n := by
  simp only [le4, val]; omega
theorem val4_inj : ∀ {a b : List Nat}, a.length = 4 → b.length = 4 → (∀ x ∈ a, x < 256) → (∀ x ∈ b, x < 256) → val a = val b → a = b
  | [a, b, c, d], [e, f, g, i], _, _, ha, hb, h => by
    simp only [List.mem_cons, List.not_mem_nil, or_false, forall_eq_or_imp, forall_eq] at ha hb
    simp only [val] at h
    have : a = e ∧ b = f ∧ c = g ∧ d = i := by omega
    simp [this]
theorem val4_lt : ∀ {a : List Nat}, a.length = 4 → (∀ x ∈ a, x < 256) → val a < 4294967296
  | [a, b, c, d], _, ha => by
    simp only [List.mem_cons, List.not_mem_nil, or_false, forall_eq_or_imp, forall_eq] at ha
    simp only [val]; omega
theorem sealL_byte {bs : List Nat} (h : ∀ x ∈ bs, x < 256) : ∀ x ∈ sealL bs, x < 256 := by
  intro x hx
  rcases List.mem_append.1 hx with h' | h'
  · exact h x h'
  · exact le4_byte _ x h'
theorem sealL_length (bs : List Nat) : (sealL bs).length = bs.length + 4 := by simp [sealL, le4_length]
theorem sealL_take (bs : List Nat) : (sealL bs).take bs.length = bs := by simp [sealL]
theorem good_seal (bs : List Nat) : goodL (sealL bs) = true := by
  unfold goodL
  rw [sealL_length, Nat.add_sub_cancel, sealL_take]
  simp [sealL]
theorem good_is_seal {bs : List Nat} (h : goodL bs = true) : 4 ≤ bs.length ∧ sealL (bs.take (bs.length - 4)) = bs := by
  unfold goodL at h
  simp only [Bool.and_eq_true, decide_eq_true_eq, beq_iff_eq] at h
  refine ⟨h.1, ?_⟩
  unfold sealL
  rw [← h.2, List.take_append_drop]
theorem good_iff {bs : List Nat} (hb : ∀ x ∈ bs, x < 256) (h4 : 4 ≤ bs.length) : goodL bs = true ↔ fol (flip32 0) bs = hvN 32 4294967295 := by
  have hp : ∀ x ∈ bs.take (bs.length - 4), x < 256 := fun x hx => hb x (List.mem_of_mem_take hx)
  have ht : ∀ x ∈ bs.drop (bs.length - 4), x < 256 := fun x hx => hb x (List.mem_of_mem_drop hx)
  have htl : (bs.drop (bs.length - 4)).length = 4 := by rw [List.length_drop]; omega
  have e : fol (flip32 0) bs = fol (fol (flip32 0) (bs.take (bs.length - 4))) (bs.drop (bs.length - 4)) := by rw [← fol_append, List.take_append_drop]
  have hs := sumL_lt hp
  have hl := fol_lt (n := flip32 0) (bs.take (bs.length - 4)) (by decide) hp
  unfold goodL
  simp only [h4, decide_true, Bool.true_and, beq_iff_eq]
  rw [e, fol_val _ _ ht, htl]
  unfold sumL withL at hs ⊢
  generalize bs.drop (bs.length - 4) = t at *
  generalize fol (flip32 0) (bs.take (bs.length - 4)) = p at *
  constructor
  · intro h
    rw [h, val_le4 hs]
    unfold flip32
    rw [← Nat.xor_assoc, Nat.xor_self, Nat.zero_xor]
  · intro h
    have := hvN_inj 32 (xor_lt32 hl (val4_lt htl ht)) (by omega) h
    apply val4_inj htl rfl ht (le4_byte _)
    rw [val_le4 hs]
    unfold flip32
    rw [← this, ← Nat.xor_assoc, Nat.xor_self, Nat.zero_xor]
/-- What differs just in some of 32 bits, one behind the other, is not good. -/
theorem burst {s x : List Nat} (hs : ∀ y ∈ s, y < 256) (hx : ∀ y ∈ x, y < 256) (hl : x.length = s.length) (mask a : Nat) (hm : mask < 4294967296) (h0 : mask ≠ 0) (ha : a + 32 ≤ 8 * s.length)
    (hv : val x = val s ^^^ mask * 2 ^ a) (hg : goodL s = true) : goodL x = false := by
  have h4 := (good_is_seal hg).1
  rw [good_iff hs h4] at hg
  cases hgx : goodL x with
  | false => rfl
  | true =>
    exfalso
    rw [good_iff hx (by omega), fol_val _ _ hx, hl, hv, ← Nat.xor_assoc, hvN_xor, ← fol_val _ _ hs, hg] at hgx
    have h : hvN (8 * s.length) (mask * 2 ^ a) = 0 := by
      have : hvN 32 4294967295 ^^^ (hvN 32 4294967295 ^^^ hvN (8 * s.length) (mask * 2 ^ a)) = hvN 32 4294967295 ^^^ hvN 32 4294967295 := by rw [hgx]
      rw [← Nat.xor_assoc, Nat.xor_self, Nat.zero_xor] at this
      exact this
    rw [show 8 * s.length = a + (8 * s.length - a) by omega, hvN_add, Nat.mul_comm mask, hvN_pow] at h
    exact h0 (hvN_zero _ hm h)
theorem val_set : ∀ (x : List Nat) (j b : Nat), j < x.length → (∀ y ∈ x, y < 256) → b < 256 → val (x.set j (x.getD j 0 ^^^ b)) = val x ^^^ b * 256 ^ j
  | d :: r, 0, b, _, hx, hb => by
    have hd : d < 2 ^ 8 := hx d (by simp)
    have hdb : d ^^^ b < 2 ^ 8 := xor_lt8 hd hb
    simp only [List.set_cons_zero, List.getD_cons_zero, val, Nat.pow_zero, Nat.mul_one]
    rw [show (256 : Nat) = 2 ^ 8 from rfl, add_eq_xor hd, add_eq_xor hdb, Nat.xor_assoc, Nat.xor_assoc, Nat.xor_comm b]
  | d :: r, j + 1, b, h, hx, hb => by
    have hd : d < 2 ^ 8 := hx d (by simp)
    simp only [List.set_cons_succ, List.getD_cons_succ, val]
    rw [val_set r j b (by simpa using h) (fun y hy => hx y (by simp [hy])) hb, show (256 : Nat) = 2 ^ 8 from rfl, add_eq_xor hd, add_eq_xor hd, Nat.mul_comm, xor_mul_pow, Nat.xor_assoc, Nat.mul_comm (val r), Nat.mul_assoc b, ← Nat.pow_succ]
  | [], _, _, h, _, _ => by simp at h

/-- The document's own turn, by a bit. -/
theorem turn_hv (n b : Nat) (hb : b < 2) : (if n % 2 ≠ b then n / 2 ^^^ 3988292384 else n / 2) = hv (n ^^^ b) := by
  have h1 : (n ^^^ b) / 2 = n / 2 ^^^ b / 2 := Nat.xor_div_two
  have h2 : (n ^^^ b) % 2 = (n + b) % 2 := xor_mod2 _ _
  unfold hv
  rw [h1, h2, show b / 2 = 0 by omega, Nat.xor_zero]
  by_cases h : n % 2 = b
  · rw [if_neg (by omega), if_pos (by omega)]
  · rw [if_pos h, if_neg (by omega)]
theorem turn_next (n c k : Nat) : hvN (k + 1) (n ^^^ c) = hvN k (hv (n ^^^ c % 2) ^^^ c / 2) := by
  have e : c = c % 2 ^^^ 2 * (c / 2) := by
    have h := add_eq_xor (a := c % 2) (b := c / 2) (k := 1) (Nat.mod_lt _ (by decide))
    rw [show (2 : Nat) ^ 1 = 2 from rfl] at h
    rw [← h]; omega
  rw [hvN]
  congr 1
  conv => lhs; rw [e]
  rw [← Nat.xor_assoc, hv_xor, hv_even]

/-- The table: where bit is a power of two, and low a multiple of twice as much. -/
theorem tab_add (k low : Nat) (h : low % 2 ^ (k + 1) = 0) : hvN 8 (low + 2 ^ k) = hvN 8 low ^^^ hvN 8 (2 ^ k) := by
  obtain ⟨m, rfl⟩ : ∃ m, low = 2 ^ (k + 1) * m := ⟨low / 2 ^ (k + 1), by have := Nat.div_add_mod low (2 ^ (k + 1)); omega⟩
  rw [Nat.add_comm, add_eq_xor (Nat.pow_lt_pow_right (by omega) (by omega)), Nat.xor_comm, hvN_xor]
end Go.Proofs.YtclbjbhpncpmbaaGreatDoor

/- Frames, plainly: their bytes, and what bytes are. No program. No condition. -/
namespace Go.Proofs.YtclbjbhpncpmbaaGreatDoor

/-- A frame: its kind, its bytes. -/
abbrev Fra := Int × List Nat
def putL (k : Nat) (b : List Nat) : List Nat := sealL [k, b.length] ++ sealL b
/-- Why bytes begin by no frame; 0: they do. -/
def getE (bs : List Nat) : Nat :=
  if bs.length < 6 then 2 else if goodL (bs.take 6) = false then 3 else if bs.length < bs.getD 1 0 + 10 then 2 else if goodL ((bs.drop 6).take (bs.getD 1 0 + 4)) = false then 3 else 0
def getF (bs : List Nat) : Fra := if getE bs = 0 then (((bs.getD 0 0 : Nat) : Int), (bs.drop 6).take (bs.getD 1 0)) else (0, [])
def getN (bs : List Nat) : Nat := if getE bs = 0 then bs.getD 1 0 + 10 else 0

theorem putL_length (k : Nat) (b : List Nat) : (putL k b).length = b.length + 10 := by simp only [putL, List.length_append, sealL_length, List.length_cons, List.length_nil]; omega
theorem putL_byte {k : Nat} {b : List Nat} (hk : k < 256) (hl : b.length < 256) (hb : ∀ x ∈ b, x < 256) : ∀ x ∈ putL k b, x < 256 := by
  intro x hx
  rcases List.mem_append.1 hx with h | h
  · refine sealL_byte (fun y hy => ?_) x h
    simp only [List.mem_cons, List.not_mem_nil, or_false] at hy
    omega
  · exact sealL_byte hb x h
theorem head_length (k n : Nat) : (sealL [k, n]).length = 6 := by rw [sealL_length]; rfl
theorem putL_getD0 (k : Nat) (b r : List Nat) : (putL k b ++ r).getD 0 0 = k := rfl
theorem putL_getD1 (k : Nat) (b r : List Nat) : (putL k b ++ r).getD 1 0 = b.length := rfl
theorem putL_take6 (k : Nat) (b r : List Nat) : (putL k b ++ r).take 6 = sealL [k, b.length] := by
  unfold putL
  rw [List.append_assoc, List.take_append_of_le_length (by rw [head_length]; omega), List.take_of_length_le (by rw [head_length]; omega)]
theorem putL_drop6 (k : Nat) (b r : List Nat) : (putL k b ++ r).drop 6 = sealL b ++ r := by
  unfold putL
  rw [List.append_assoc, List.drop_append_of_le_length (by rw [head_length]; omega), List.drop_of_length_le (by rw [head_length]; omega), List.nil_append]
theorem putL_body (k : Nat) (b r : List Nat) : ((putL k b ++ r).drop 6).take b.length = b := by
  rw [putL_drop6, sealL, List.append_assoc, List.take_append_of_le_length (Nat.le_refl _), List.take_of_length_le (Nat.le_refl _)]
theorem putL_sealed (k : Nat) (b r : List Nat) : ((putL k b ++ r).drop 6).take (b.length + 4) = sealL b := by
  rw [putL_drop6, List.take_append_of_le_length (by rw [sealL_length]; omega), List.take_of_length_le (by rw [sealL_length]; omega)]
/-- What is put is read, whatever stands behind. -/
theorem get_put (k : Nat) (b r : List Nat) : getE (putL k b ++ r) = 0 := by
  unfold getE
  rw [putL_getD1, putL_take6, good_seal, putL_sealed, good_seal, List.length_append, putL_length, if_neg (by omega), if_neg (by simp), if_neg (by omega), if_neg (by simp)]
theorem getF_put (k : Nat) (b r : List Nat) : getF (putL k b ++ r) = (((k : Nat) : Int), b) := by
  unfold getF; rw [if_pos (get_put k b r), putL_getD0, putL_getD1, putL_body]
theorem getN_put (k : Nat) (b r : List Nat) : getN (putL k b ++ r) = b.length + 10 := by
  unfold getN; rw [if_pos (get_put k b r), putL_getD1]
/-- What is read: the bytes' parts. -/
theorem get_ok {bs : List Nat} (h : getE bs = 0) : 6 ≤ bs.length ∧ goodL (bs.take 6) = true ∧ bs.getD 1 0 + 10 ≤ bs.length ∧ goodL ((bs.drop 6).take (bs.getD 1 0 + 4)) = true := by
  unfold getE at h
  split at h
  · cases h
  · split at h
    · cases h
    · split at h
      · cases h
      · split at h
        · cases h
        · rename_i h1 h2 h3 h4
          exact ⟨by omega, by simpa using h2, by omega, by simpa using h4⟩
/-- What is read is put as the same bytes. -/
theorem put_get {bs : List Nat} (h : getE bs = 0) : putL (bs.getD 0 0) ((bs.drop 6).take (bs.getD 1 0)) = bs.take (bs.getD 1 0 + 10) := by
  obtain ⟨h6, hg, hl, hgb⟩ := get_ok h
  have e1 := (good_is_seal hg).2
  have e2 := (good_is_seal hgb).2
  have hl6 : (bs.take 6).length = 6 := by rw [List.length_take]; omega
  have hlb : ((bs.drop 6).take (bs.getD 1 0 + 4)).length = bs.getD 1 0 + 4 := by rw [List.length_take, List.length_drop]; omega
  rw [hl6, List.take_take] at e1
  rw [hlb, List.take_take, Nat.add_sub_cancel, Nat.min_eq_left (by omega)] at e2
  have hlen : ((bs.drop 6).take (bs.getD 1 0)).length = bs.getD 1 0 := by rw [List.length_take, List.length_drop]; omega
  have e0 : bs.take (min (6 - 4) 6) = [bs.getD 0 0, bs.getD 1 0] := by
    match bs, h6 with
    | a :: b :: r, _ => rfl
  unfold putL
  rw [hlen, ← e0, e1, e2, show bs.getD 1 0 + 10 = 6 + (bs.getD 1 0 + 4) by omega]
  exact List.take_add.symm
theorem get_bad {bs : List Nat} (h : getE bs ≠ 0) : getF bs = (0, []) ∧ getN bs = 0 := by unfold getF getN; rw [if_neg h, if_neg h]; exact ⟨rfl, rfl⟩
theorem get_fine {bs : List Nat} (h : getE bs = 0) : getF bs = (((bs.getD 0 0 : Nat) : Int), (bs.drop 6).take (bs.getD 1 0)) ∧ getN bs = bs.getD 1 0 + 10 := by unfold getF getN; rw [if_pos h, if_pos h]; exact ⟨rfl, rfl⟩
theorem getE_short {bs : List Nat} (h : bs.length < 6) : getE bs = 2 := by unfold getE; rw [if_pos h]
theorem getE_head {bs : List Nat} (h : 6 ≤ bs.length) (hg : goodL (bs.take 6) = false) : getE bs = 3 := by unfold getE; rw [if_neg (by omega), if_pos hg]
theorem getE_cut {bs : List Nat} (h : 6 ≤ bs.length) (hg : goodL (bs.take 6) = true) (hl : bs.length < bs.getD 1 0 + 10) : getE bs = 2 := by unfold getE; rw [if_neg (by omega), if_neg (by simp [hg]), if_pos hl]
theorem getE_sum {bs : List Nat} (h : 6 ≤ bs.length) (hg : goodL (bs.take 6) = true) (hl : bs.getD 1 0 + 10 ≤ bs.length) (hb : goodL ((bs.drop 6).take (bs.getD 1 0 + 4)) = false) : getE bs = 3 := by
  unfold getE; rw [if_neg (by omega), if_neg (by simp [hg]), if_neg (by omega), if_pos hb]
theorem getE_fine {bs : List Nat} (h : 6 ≤ bs.length) (hg : goodL (bs.take 6) = true) (hl : bs.getD 1 0 + 10 ≤ bs.length) (hb : goodL ((bs.drop 6).take (bs.getD 1 0 + 4)) = true) : getE bs = 0 := by
  unfold getE; rw [if_neg (by omega), if_neg (by simp [hg]), if_neg (by omega), if_neg (by rw [hb]; simp)]
theorem getF_len {bs : List Nat} : (getF bs).2.length ≤ bs.length := by
  unfold getF
  split
  · simp only [List.length_take, List.length_drop]; omega
  · simp
theorem getF_byte {bs : List Nat} (hb : ∀ x ∈ bs, x < 256) : ∀ x ∈ (getF bs).2, x < 256 := by
  unfold getF
  split
  · intro x hx; exact hb x (List.mem_of_mem_drop (List.mem_of_mem_take hx))
  · intro x hx; simp at hx

/-- All frames of bytes, and why not; n: how many at most. -/
def allF : Nat → List Nat → Nat × List Fra
  | 0, _ => (0, [])
  | n + 1, bs => if bs = [] then (0, []) else if getE bs ≠ 0 then (getE bs, []) else
    let r := allF n (bs.drop (getN bs))
    if r.1 ≠ 0 then (r.1, []) else (0, getF bs :: r.2)
def allL (bs : List Nat) : Nat × List Fra := allF bs.length bs
theorem getN_pos {bs : List Nat} (h : getE bs = 0) : 10 ≤ getN bs ∧ getN bs ≤ bs.length := by
  have := get_ok h
  unfold getN
  rw [if_pos h]
  omega
theorem allF_enough : ∀ (n m : Nat) (bs : List Nat), bs.length ≤ n → bs.length ≤ m → allF n bs = allF m bs
  | 0, m, bs, h, _ => by
    have : bs = [] := List.eq_nil_of_length_eq_zero (by omega)
    subst this
    cases m <;> simp [allF]
  | n + 1, 0, bs, _, h => by
    have : bs = [] := List.eq_nil_of_length_eq_zero (by omega)
    subst this
    simp [allF]
  | n + 1, m + 1, bs, h1, h2 => by
    simp only [allF]
    by_cases hb : bs = []
    · simp [hb]
    · by_cases he : getE bs = 0
      · have hp := getN_pos he
        have hl : (bs.drop (getN bs)).length ≤ bs.length - 10 := by rw [List.length_drop]; omega
        rw [allF_enough n m _ (by omega) (by omega)]
      · simp [hb, he]
theorem allL_nil : allL [] = (0, []) := rfl
theorem allL_bad {bs : List Nat} (h : bs ≠ []) (he : getE bs ≠ 0) : allL bs = (getE bs, []) := by
  unfold allL
  have : 0 < bs.length := List.length_pos_iff.2 h
  rw [allF_enough bs.length (bs.length + 1) bs (by omega) (by omega), allF, if_neg h, if_pos he]
theorem allL_ok {bs : List Nat} (h : bs ≠ []) (he : getE bs = 0) : allL bs = if (allL (bs.drop (getN bs))).1 ≠ 0 then ((allL (bs.drop (getN bs))).1, []) else (0, getF bs :: (allL (bs.drop (getN bs))).2) := by
  unfold allL
  rw [allF_enough bs.length (bs.length + 1) bs (by omega) (by omega), allF, if_neg h, if_neg (by simpa using he), allF_enough bs.length (bs.drop (getN bs)).length _ (by rw [List.length_drop]; omega) (by omega)]
theorem allL_put (k : Nat) (b r : List Nat) : allL (putL k b ++ r) = if (allL r).1 ≠ 0 then ((allL r).1, []) else (0, (((k : Nat) : Int), b) :: (allL r).2) := by
  have hd : (putL k b ++ r).drop (getN (putL k b ++ r)) = r := by
    rw [getN_put, ← putL_length k b, List.drop_append_of_le_length (Nat.le_refl _), List.drop_of_length_le (Nat.le_refl _), List.nil_append]
  rw [allL_ok (fun h => by have := congrArg List.length h; rw [List.length_append, putL_length] at this; simp at this) (get_put k b r), hd, getF_put]
theorem allL_put2 (k l : Nat) (b c : List Nat) : allL (putL k b ++ putL l c) = (0, [((k : Int), b), ((l : Int), c)]) := by
  have := allL_put l c []
  rw [allL_nil, List.append_nil] at this
  rw [allL_put, this]
  rfl
theorem allL_put1 (k : Nat) (b : List Nat) : allL (putL k b) = (0, [((k : Int), b)]) := by
  have := allL_put k b []
  rw [allL_nil, List.append_nil] at this
  rw [this]
  rfl
/-- What a run has: those ahead, and all of the rest. -/
def joinL (pre : List Fra) (r : Nat × List Fra) : Nat × List Fra := if r.1 ≠ 0 then (r.1, []) else (0, pre ++ r.2)
theorem joinL_nil (bs : List Nat) : joinL [] (allL bs) = allL bs := by
  unfold joinL
  by_cases h : (allL bs).1 = 0
  · rw [if_neg (by simpa using h)]
    cases h2 : allL bs with
    | mk a b => rw [h2] at h; simp at h; simp [h]
  · rw [if_pos h]
    by_cases hb : bs = []
    · subst hb; simp [allL_nil] at h
    · by_cases he : getE bs = 0
      · rw [allL_ok hb he] at h ⊢
        split
        · rfl
        · rename_i h2; rw [if_neg h2] at h; simp at h
      · rw [allL_bad hb he]
theorem joinL_bad {pre : List Fra} {bs : List Nat} (h : bs ≠ []) (he : getE bs ≠ 0) : joinL pre (allL bs) = (getE bs, []) := by rw [allL_bad h he]; simp [joinL, he]
theorem joinL_step {pre : List Fra} {bs : List Nat} (h : bs ≠ []) (he : getE bs = 0) : joinL pre (allL bs) = joinL (pre ++ [getF bs]) (allL (bs.drop (getN bs))) := by
  rw [allL_ok h he]
  unfold joinL
  by_cases h2 : (allL (bs.drop (getN bs))).1 = 0
  · simp [h2]
  · simp [h2]
theorem joinL_end (pre : List Fra) : joinL pre (allL []) = (0, pre) := by simp [joinL, allL_nil]
theorem putL_at {k j : Nat} {bs : List Nat} (hj : j < bs.length) : (putL k bs).getD (6 + j) 0 = bs.getD j 0 := by
  have h := putL_drop6 k bs []
  rw [List.append_nil, List.append_nil] at h
  have : (putL k bs).getD (6 + j) 0 = ((putL k bs).drop 6).getD j 0 := by simp [List.getD_eq_getElem?_getD, List.getElem?_drop]
  rw [this, h, sealL]
  simp [List.getD_eq_getElem?_getD, List.getElem?_append_left hj]
theorem get_back {bs : List Nat} (hb : ∀ x ∈ bs, x < 256) (h : getE bs = 0) : ∃ k0 : Nat, k0 < 256 ∧ (getF bs).1 = (k0 : Int) ∧ (getF bs).2.length < 256 ∧ getN bs = (getF bs).2.length + 10 ∧ putL k0 (getF bs).2 = bs.take (getN bs) ∧ getN bs ≤ bs.length := by
  obtain ⟨hF, hN⟩ := get_fine h
  obtain ⟨h6, _, hl, _⟩ := get_ok h
  have hlt : ∀ j, j < bs.length → bs.getD j 0 < 256 := fun j hj => by
    have : bs.getD j 0 = bs[j] := by simp [hj]
    rw [this]; exact hb _ (List.getElem_mem hj)
  have h1 := hlt 1 (by omega)
  have hlen : ((bs.drop 6).take (bs.getD 1 0)).length = bs.getD 1 0 := by rw [List.length_take, List.length_drop]; omega
  refine ⟨bs.getD 0 0, hlt 0 (by omega), by rw [hF], by rw [hF]; simp only; omega, by rw [hF, hN]; simp only; omega, by rw [hF, hN]; exact put_get h, by omega⟩
end Go.Proofs.YtclbjbhpncpmbaaGreatDoor

/- Frames' bytes, one behind the other, and what they are read as. No program. No condition. -/
namespace Go.Proofs.YtclbjbhpncpmbaaGreatDoor

/-- Frames' bytes, one behind the other. -/
def catL : List Fra → List Nat
  | [] => []
  | f :: l => putL f.1.toNat f.2 ++ catL l
def Fit (f : Fra) : Prop := 0 ≤ f.1 ∧ f.1 ≤ 255 ∧ f.2.length ≤ 255 ∧ ∀ x ∈ f.2, x < 256
theorem catL_append : ∀ (a b : List Fra), catL (a ++ b) = catL a ++ catL b
  | [], _ => rfl
  | f :: a, b => by simp only [List.cons_append, catL]; rw [catL_append a b, List.append_assoc]
theorem catL_len : ∀ (l : List Fra), (∀ f ∈ l, Fit f) → (catL l).length ≤ 265 * l.length
  | [], _ => by simp [catL]
  | f :: l, h => by
    have h1 := (h f (by simp)).2.2.1
    have h2 := catL_len l fun g hg => h g (by simp [hg])
    simp only [catL, List.length_append, putL_length, List.length_cons]
    omega
theorem catL_byte : ∀ (l : List Fra), (∀ f ∈ l, Fit f) → ∀ x ∈ catL l, x < 256
  | [], _ => by simp [catL]
  | f :: l, h => by
    have h1 := h f (by simp)
    have h2 := catL_byte l fun g hg => h g (by simp [hg])
    intro x hx
    rcases List.mem_append.1 hx with h' | h'
    · exact putL_byte (by have := h1.1; have := h1.2.1; omega) (by have := h1.2.2.1; omega) h1.2.2.2 x h'
    · exact h2 x h'
theorem allL_cat : ∀ (l : List Fra), (∀ f ∈ l, Fit f) → allL (catL l) = (0, l)
  | [], _ => rfl
  | f :: l, h => by
    have h1 := h f (by simp)
    simp only [catL]
    rw [allL_put, allL_cat l fun g hg => h g (by simp [hg])]
    have : ((f.1.toNat : Nat) : Int) = f.1 := Int.toNat_of_nonneg h1.1
    rw [this]
    simp
end Go.Proofs.YtclbjbhpncpmbaaGreatDoor

/- Flows, plainly: their frames and bytes, what frames, read one after the other, are, and what bytes are. No program. No condition. -/
namespace Go.Proofs.YtclbjbhpncpmbaaGreatDoor

/-- A flow: its base, its parts. -/
abbrev Flo := Int × List (List Nat)
def mayB (f : Flo) : Bool := decide (f.2.length ≤ 40) && f.2.all fun p => decide (p.length ≤ 200)
def headL (base n : Nat) : List Nat := vputL 1 ++ vputL base ++ vputL n
def partsF : Nat → List (List Nat) → List Fra
  | _, [] => []
  | k, p :: r => (2, vputL k ++ p) :: partsF (k + 1) r
def framesF (f : Flo) : List Fra := (1, headL f.1.toNat f.2.length) :: (partsF 0 f.2 ++ [(3, vputL f.2.length)])
def flowB (f : Flo) : List Nat := catL (framesF f)
/-- A flow that may be, of bytes. -/
structure OkF (f : Flo) : Prop where
  low : 0 ≤ f.1
  high : f.1 ≤ 4294967295
  may : mayB f = true
  byte : ∀ p ∈ f.2, ∀ x ∈ p, x < 256
theorem OkF.few {f : Flo} (h : OkF f) : f.2.length ≤ 40 := by have := h.may; simp [mayB] at this; exact this.1
theorem OkF.short {f : Flo} (h : OkF f) : ∀ p ∈ f.2, p.length ≤ 200 := by have := h.may; simp [mayB] at this; exact this.2
theorem OkF.base {f : Flo} (h : OkF f) : f.1.toNat < 4294967296 ∧ ((f.1.toNat : Nat) : Int) = f.1 := by have := h.low; have := h.high; omega

/-! ### numbers, one behind the other -/
theorem vall_put (n : Nat) (r : List Nat) (h : n < 18446744073709551616) : vallL (vputL n ++ r) = (vallL r).map (n :: ·) := by
  have hg := getL_put n r h
  have hp := putL_pos n
  rw [allL_some _ (by rw [hg]; show (vputL n).length ≠ 0; omega), hg]
  simp
def catV : List Nat → List Nat
  | [] => []
  | n :: l => vputL n ++ catV l
theorem vall_cat : ∀ (l : List Nat), (∀ n ∈ l, n < 18446744073709551616) → vallL (catV l) = some l
  | [], _ => vallL_nil
  | n :: l, h => by
    rw [catV, vall_put n _ (h n (by simp)), vall_cat l fun m hm => h m (by simp [hm])]
    rfl
theorem vall_back : ∀ (k : Nat) (b : List Nat), b.length ≤ k → (∀ x ∈ b, x < 256) → ∀ l, vallL b = some l → b = catV l ∧ ∀ n ∈ l, n < 18446744073709551616
  | k, [], _, _, l, h => by
    rw [vallL_nil] at h
    injection h with h
    subst h
    exact ⟨rfl, by simp⟩
  | 0, x :: b, hk, _, _, _ => by simp at hk
  | k + 1, x :: b, hk, hb, l, h => by
    by_cases h2 : (getL (x :: b)).2 = 0
    · rw [allL_none _ (by simp) h2] at h; cases h
    · obtain ⟨h3, h4, h5, h6⟩ := getL_back _ hb h2
      rw [allL_some _ h2] at h
      cases hr : vallL ((x :: b).drop (getL (x :: b)).2) with
      | none => rw [hr] at h; cases h
      | some r =>
        rw [hr] at h
        injection h with h
        subst h
        obtain ⟨e, hn⟩ := vall_back k ((x :: b).drop (getL (x :: b)).2) (by rw [List.length_drop]; simp only [List.length_cons] at hk ⊢; omega) (fun y hy => hb y (List.mem_of_mem_drop hy)) r hr
        refine ⟨?_, fun n hn' => ?_⟩
        · rw [catV, ← e, h5, List.take_append_drop]
        · rcases List.mem_cons.1 hn' with rfl | h7
          · exact h6
          · exact hn n h7
theorem vputL_len5 {n : Nat} (h : n < 4294967296) : (vputL n).length ≤ 5 := putL_len 4 n (by omega)
theorem headL_cat (base n : Nat) : headL base n = catV [1, base, n] := by simp [headL, catV]
theorem headL_vall {base n : Nat} (hb : base < 18446744073709551616) (hn : n < 18446744073709551616) : vallL (headL base n) = some [1, base, n] := by
  rw [headL_cat]
  exact vall_cat _ (by intro m hm; simp at hm; omega)
theorem vputL_vall {n : Nat} (hn : n < 18446744073709551616) : vallL (vputL n) = some [n] := by
  have := vall_cat [n] (by simpa using hn)
  simpa [catV] using this
theorem headL_byte (base n : Nat) : ∀ x ∈ headL base n, x < 256 := by
  intro x hx
  rcases List.mem_append.1 hx with h | h
  · rcases List.mem_append.1 h with h | h
    · exact vputL_byte _ x h
    · exact vputL_byte _ x h
  · exact vputL_byte _ x h
theorem headL_len {base n : Nat} (hb : base < 4294967296) (hn : n ≤ 40) : (headL base n).length ≤ 7 := by
  have h1 := vputL_len5 hb
  rw [headL, List.length_append, List.length_append, putL_small (show 1 < 128 by omega), putL_small (show n < 128 by omega)]
  simp
  omega

/-! ### a flow's frames -/
theorem partsF_length : ∀ (k : Nat) (ps : List (List Nat)), (partsF k ps).length = ps.length
  | _, [] => rfl
  | k, p :: r => by simp [partsF, partsF_length (k + 1) r]
theorem partsF_append : ∀ (k : Nat) (ps qs : List (List Nat)), partsF k (ps ++ qs) = partsF k ps ++ partsF (k + ps.length) qs
  | k, [], qs => by simp [partsF]
  | k, p :: r, qs => by
    simp only [List.cons_append, partsF, List.length_cons]
    rw [partsF_append (k + 1) r qs, show k + 1 + r.length = k + (r.length + 1) by omega]
theorem partsF_get : ∀ (k : Nat) (ps : List (List Nat)) (j : Nat), (partsF k ps)[j]? = ps[j]?.map fun p => ((2 : Int), vputL (k + j) ++ p)
  | _, [], j => by simp [partsF]
  | k, p :: r, 0 => by simp [partsF]
  | k, p :: r, j + 1 => by
    simp only [partsF, List.getElem?_cons_succ]
    rw [partsF_get (k + 1) r j, show k + 1 + j = k + (j + 1) by omega]
theorem framesF_length (f : Flo) : (framesF f).length = f.2.length + 2 := by simp [framesF, partsF_length]
theorem framesF_fit {f : Flo} (h : OkF f) : ∀ x ∈ framesF f, Fit x := by
  have hfew := h.few
  intro x hx
  rcases List.mem_cons.1 hx with rfl | hx
  · refine ⟨by simp, by simp, ?_, headL_byte _ _⟩
    have := headL_len (base := f.1.toNat) (n := f.2.length) h.base.1 hfew
    simp only; omega
  · rcases List.mem_append.1 hx with hx | hx
    · obtain ⟨j, hj⟩ := List.getElem?_of_mem hx
      rw [partsF_get] at hj
      cases hp : f.2[j]? with
      | none => rw [hp] at hj; cases hj
      | some p =>
        rw [hp] at hj
        simp at hj
        subst hj
        obtain ⟨hlt, hpe⟩ := List.getElem?_eq_some_iff.1 hp
        have hm : p ∈ f.2 := by rw [← hpe]; exact List.getElem_mem hlt
        have h1 := h.short p hm
        have h2 := vputL_len5 (n := j) (by omega)
        refine ⟨by simp, by simp, by simp only [List.length_append]; omega, fun y hy => ?_⟩
        rcases List.mem_append.1 hy with hy | hy
        · exact vputL_byte _ y hy
        · exact h.byte p hm y hy
    · simp at hx
      subst hx
      have h2 := vputL_len5 (n := f.2.length) (by omega)
      exact ⟨by simp, by simp, by simp only; omega, vputL_byte _⟩
theorem framesF_get (f : Flo) (j : Nat) : (framesF f)[j]? = if j = 0 then some (1, headL f.1.toNat f.2.length) else if j ≤ f.2.length then f.2[j - 1]?.map (fun p => ((2 : Int), vputL (j - 1) ++ p)) else if j = f.2.length + 1 then some (3, vputL f.2.length) else none := by
  cases j with
  | zero => rfl
  | succ j =>
    rw [if_neg (by omega)]
    simp only [framesF, List.getElem?_cons_succ, Nat.add_sub_cancel]
    by_cases h : j < f.2.length
    · rw [if_pos (by omega), List.getElem?_append_left (by rw [partsF_length]; exact h), partsF_get, Nat.zero_add]
    · rw [if_neg (by omega), List.getElem?_append_right (by rw [partsF_length]; omega), partsF_length]
      by_cases h2 : j = f.2.length
      · subst h2; simp
      · rw [if_neg (by omega)]
        exact List.getElem?_eq_none (by simp; omega)

/-! ### frames, read one after the other -/
structure RSt where
  base : Nat
  parts : List (List Nat)
  count : Nat
  due : Int
def dueOf (had count : Nat) : Int := if had < count then 2 else 3
def headS (s : RSt) (body : List Nat) : Option RSt :=
  match vallL body with
  | some [v, b, c] => if v = 1 ∧ b ≤ 4294967295 ∧ c ≤ 40 then some ⟨b, s.parts, c, dueOf s.parts.length c⟩ else none
  | _ => none
def partS (s : RSt) (body : List Nat) : Option RSt :=
  if (getL body).2 ≠ 0 ∧ (getL body).1 = s.parts.length ∧ body.length - (getL body).2 ≤ 200 then some ⟨s.base, s.parts ++ [body.drop (getL body).2], s.count, dueOf (s.parts.length + 1) s.count⟩ else none
def tailS (s : RSt) (body : List Nat) : Option RSt :=
  match vallL body with
  | some [c] => if c = s.count then some ⟨s.base, s.parts, s.count, -1⟩ else none
  | _ => none
def stepS (s : RSt) (x : Fra) : Option RSt := if x.1 ≠ s.due then none else if x.1 = 1 then headS s x.2 else if x.1 = 2 then partS s x.2 else tailS s x.2
def runS : RSt → List Fra → Option RSt
  | s, [] => if s.due = -1 then some s else none
  | s, x :: l => (stepS s x).bind fun t => runS t l
def startS : RSt := ⟨0, [], 0, 1⟩
def flowOf (l : List Fra) : Option Flo := (runS startS l).map fun s => ((s.base : Int), s.parts)

theorem runS_parts : ∀ (ps : List (List Nat)) (s : RSt), s.due = dueOf s.parts.length s.count → s.parts.length + ps.length = s.count → s.count ≤ 40 → (∀ p ∈ ps, p.length ≤ 200) →
    runS s (partsF s.parts.length ps ++ [(3, vputL s.count)]) = some ⟨s.base, s.parts ++ ps, s.count, -1⟩
  | [], s, hd, hc, h40, _ => by
    have h3 : s.due = 3 := by rw [hd, dueOf, if_neg (by simp at hc; omega)]
    simp only [partsF, List.nil_append, runS, stepS, h3, tailS]
    rw [vputL_vall (by omega)]
    simp
  | p :: r, s, hd, hc, h40, hp => by
    have hlt : s.parts.length < s.count := by simp at hc; omega
    have h2 : s.due = 2 := by rw [hd, dueOf, if_pos hlt]
    have hg := getL_put s.parts.length p (by omega)
    have hpos := putL_pos s.parts.length
    have hpl := hp p (by simp)
    have hstep : stepS s (2, vputL s.parts.length ++ p) = some ⟨s.base, s.parts ++ [p], s.count, dueOf (s.parts.length + 1) s.count⟩ := by
      rw [stepS, if_neg (by rw [h2]; simp), if_neg (by simp), if_pos rfl, partS, hg]
      simp only [List.drop_left]
      rw [if_pos ⟨by omega, trivial, by rw [List.length_append]; omega⟩]
    have ih := runS_parts r ⟨s.base, s.parts ++ [p], s.count, dueOf (s.parts.length + 1) s.count⟩ (by simp) (by simp at hc ⊢; omega) h40 (fun q hq => hp q (by simp [hq]))
    simp only [List.length_append, List.length_cons, List.length_nil, Nat.zero_add, List.append_assoc, List.cons_append, List.nil_append] at ih
    simp only [partsF, List.cons_append, runS, hstep, Option.bind_some]
    exact ih
theorem runS_back : ∀ (l : List Fra) (s t : RSt), (∀ x ∈ l, Fit x) → s.due = dueOf s.parts.length s.count → s.parts.length ≤ s.count → runS s l = some t →
    ∃ ps, s.parts.length + ps.length = s.count ∧ (∀ p ∈ ps, p.length ≤ 200) ∧ (∀ p ∈ ps, ∀ x ∈ p, x < 256) ∧ l = partsF s.parts.length ps ++ [(3, vputL s.count)] ∧ t = ⟨s.base, s.parts ++ ps, s.count, -1⟩
  | [], s, t, _, hd, _, h => by
    rw [runS, if_neg (by rw [hd, dueOf]; split <;> omega)] at h
    cases h
  | x :: l, s, t, hf, hd, hle, h => by
    rw [runS] at h
    cases hs : stepS s x with
    | none => rw [hs] at h; cases h
    | some u =>
      rw [hs, Option.bind_some] at h
      have hx := hf x (by simp)
      by_cases hlt : s.parts.length < s.count
      · have h2 : s.due = 2 := by rw [hd, dueOf, if_pos hlt]
        rw [stepS] at hs
        by_cases hk : x.1 = 2
        · rw [if_neg (by rw [h2]; simpa using hk), if_neg (by omega), if_pos hk, partS] at hs
          split at hs
          · rename_i hc
            obtain ⟨hc1, hc2, hc3⟩ := hc
            obtain ⟨hb1, hb2, hb3, hb4⟩ := getL_back x.2 hx.2.2.2 hc1
            injection hs with hs
            subst hs
            obtain ⟨ps, e1, e2, e5, e3, e4⟩ := runS_back l _ t (fun y hy => hf y (by simp [hy])) (by simp) (by simp; omega) h
            simp only [List.length_append, List.length_cons, List.length_nil, Nat.zero_add] at e1 e3 e4
            refine ⟨x.2.drop (getL x.2).2 :: ps, by simp only [List.length_cons]; omega, ?_, ?_, ?_, ?_⟩
            · intro p hp
              rcases List.mem_cons.1 hp with rfl | hp
              · rw [List.length_drop]; omega
              · exact e2 p hp
            · intro p hp
              rcases List.mem_cons.1 hp with rfl | hp
              · intro y hy; exact hx.2.2.2 y (List.mem_of_mem_drop hy)
              · exact e5 p hp
            · have hx2 : x = (2, vputL s.parts.length ++ x.2.drop (getL x.2).2) := by
                refine Prod.ext hk ?_
                simp only
                rw [← hc2, hb3, List.take_append_drop]
              rw [e3]
              simp only [partsF, List.cons_append]
              rw [← hx2]
            · rw [e4]; simp
          · cases hs
        · rw [if_pos (by rw [h2]; exact hk)] at hs; cases hs
      · have h3 : s.due = 3 := by rw [hd, dueOf, if_neg hlt]
        rw [stepS] at hs
        by_cases hk : x.1 = 3
        · rw [if_neg (by rw [h3]; simpa using hk), if_neg (by omega), if_neg (by omega), tailS] at hs
          split at hs
          · rename_i c hv
            split at hs
            · rename_i hc
              injection hs with hs
              subst hs
              obtain ⟨e, _⟩ := vall_back x.2.length x.2 (Nat.le_refl _) hx.2.2.2 [c] hv
              cases l with
              | nil =>
                simp [runS] at h
                refine ⟨[], by simp; omega, by simp, by simp, ?_, by rw [← h]; simp⟩
                simp only [partsF, List.nil_append]
                rw [← hc]
                congr 1
                exact Prod.ext hk (by rw [e]; simp [catV])
              | cons y l =>
                have hy := hf y (by simp)
                rw [runS, stepS, if_pos (by have := hy.1; simp only; omega)] at h
                cases h
            · cases hs
          · cases hs
        · rw [if_pos (by rw [h3]; exact hk)] at hs; cases hs
theorem flowOf_frames {f : Flo} (h : OkF f) : flowOf (framesF f) = some f := by
  have hfew := h.few
  have hbase := h.base
  have hp := runS_parts f.2 ⟨f.1.toNat, [], f.2.length, dueOf 0 f.2.length⟩ rfl (by simp) hfew h.short
  simp only [List.length_nil, List.nil_append] at hp
  have hstep : stepS startS (1, headL f.1.toNat f.2.length) = some ⟨f.1.toNat, [], f.2.length, dueOf 0 f.2.length⟩ := by
    rw [stepS, if_neg (by simp [startS]), if_pos rfl, headS, headL_vall (by omega) (by omega)]
    simp only
    rw [if_pos ⟨trivial, by omega, hfew⟩]
    rfl
  rw [flowOf, framesF, runS, hstep, Option.bind_some, hp]
  exact congrArg some (Prod.ext hbase.2 rfl)
theorem flowOf_back {l : List Fra} {f : Flo} (hl : ∀ x ∈ l, Fit x) (h : flowOf l = some f) : OkF f ∧ l = framesF f := by
  rw [flowOf] at h
  cases l with
  | nil => simp [runS, startS] at h
  | cons x l =>
    rw [runS] at h
    cases hs : stepS startS x with
    | none => rw [hs] at h; cases h
    | some u =>
      rw [hs, Option.bind_some] at h
      have hx := hl x (by simp)
      rw [stepS] at hs
      by_cases hk : x.1 = 1
      · rw [if_neg (by simpa [startS] using hk), if_pos hk, headS] at hs
        split at hs
        · rename_i v b c hv
          split at hs
          · rename_i hc
            obtain ⟨rfl, hb, hc40⟩ := hc
            injection hs with hs
            subst hs
            obtain ⟨e, _⟩ := vall_back x.2.length x.2 (Nat.le_refl _) hx.2.2.2 _ hv
            cases hr : runS ⟨b, startS.parts, c, dueOf startS.parts.length c⟩ l with
            | none => rw [hr] at h; cases h
            | some t =>
              obtain ⟨ps, e1, e2, e5, e3, e4⟩ := runS_back l _ t (fun y hy => hl y (by simp [hy])) rfl (by simp [startS]) hr
              simp only [startS, List.length_nil, Nat.zero_add, List.nil_append] at e1 e3 e4
              rw [hr] at h
              injection h with h
              subst h
              subst e4
              refine ⟨⟨by simp, by simp only; omega, ?_, e5⟩, ?_⟩
              · simp [mayB]; exact ⟨by omega, e2⟩
              · rw [framesF]
                simp only
                rw [e1, ← e3, show ((b : Int)).toNat = b from rfl, headL_cat, ← e]
                congr 1
                exact Prod.ext hk rfl
          · cases hs
        · cases hs
      · rw [if_pos (by simpa [startS] using hk)] at hs; cases hs

/-! ### bytes -/
/-- A flow of bytes, and why not. -/
def getFl (bs : List Nat) : Flo × Nat := if (allL bs).1 ≠ 0 then ((0, []), (allL bs).1) else match flowOf (allL bs).2 with | some f => (f, 0) | none => ((0, []), 4)
theorem allL_back : ∀ (k : Nat) (bs : List Nat), bs.length ≤ k → (∀ x ∈ bs, x < 256) → (allL bs).1 = 0 → catL (allL bs).2 = bs ∧ ∀ f ∈ (allL bs).2, Fit f
  | k, [], _, _, _ => by rw [allL_nil]; exact ⟨rfl, by simp⟩
  | 0, x :: b, hk, _, _ => by simp at hk
  | k + 1, x :: b, hk, hb, h => by
    by_cases he : getE (x :: b) = 0
    · obtain ⟨k0, h1, h2, h3, h4, h5, h6⟩ := get_back hb he
      have hok := allL_ok (by simp) he
      have hN := getN_pos he
      rw [hok] at h ⊢
      by_cases hr : (allL ((x :: b).drop (getN (x :: b)))).1 = 0
      · rw [if_neg (by simpa using hr)]
        obtain ⟨e1, e2⟩ := allL_back k ((x :: b).drop (getN (x :: b))) (by rw [List.length_drop]; simp only [List.length_cons] at hk ⊢; omega) (fun y hy => hb y (List.mem_of_mem_drop hy)) hr
        refine ⟨?_, ?_⟩
        · simp only [catL]
          rw [e1, h2, show ((k0 : Int)).toNat = k0 from rfl, h5, List.take_append_drop]
        · intro f hf
          rcases List.mem_cons.1 hf with rfl | hf
          · exact ⟨by omega, by omega, by omega, getF_byte hb⟩
          · exact e2 f hf
      · rw [if_pos hr] at h; exact absurd h hr
    · rw [allL_bad (by simp) he] at h; exact absurd h he
theorem getFl_put {f : Flo} (h : OkF f) : getFl (flowB f) = (f, 0) := by
  have := allL_cat (framesF f) (framesF_fit h)
  rw [getFl, flowB, this, if_neg (by simp), flowOf_frames h]
theorem getFl_back {bs : List Nat} (hb : ∀ x ∈ bs, x < 256) (h : (getFl bs).2 = 0) : OkF (getFl bs).1 ∧ flowB (getFl bs).1 = bs ∧ (allL bs).1 = 0 ∧ (allL bs).2 = framesF (getFl bs).1 := by
  rw [getFl] at h ⊢
  by_cases he : (allL bs).1 = 0
  · rw [if_neg (by simpa using he)] at h ⊢
    obtain ⟨e1, e2⟩ := allL_back bs.length bs (Nat.le_refl _) hb he
    cases hf : flowOf (allL bs).2 with
    | none => rw [hf] at h; cases h
    | some f =>
      obtain ⟨h1, h2⟩ := flowOf_back e2 hf
      refine ⟨h1, ?_, he, h2⟩
      rw [flowB]
      simp only
      rw [← h2, e1]
  · rw [if_pos he] at h; exact absurd h he
theorem getFl_bad {bs : List Nat} (h : (getFl bs).2 ≠ 0) : (getFl bs).1 = (0, []) := by
  rw [getFl] at h ⊢
  by_cases he : (allL bs).1 = 0
  · rw [if_neg (by simpa using he)] at h ⊢
    cases hf : flowOf (allL bs).2 with
    | none => rfl
    | some f => rw [hf] at h; exact absurd rfl h
  · rw [if_pos he]
theorem flowB_byte {f : Flo} (h : OkF f) : ∀ x ∈ flowB f, x < 256 := catL_byte _ (framesF_fit h)
theorem flowB_len {f : Flo} (h : OkF f) : (flowB f).length ≤ 11130 := by
  have h1 := catL_len _ (framesF_fit h)
  have h2 := h.few
  rw [framesF_length] at h1
  rw [flowB]
  omega
theorem flowB_inj {f g : Flo} (hf : OkF f) (hg : OkF g) (h : flowB f = flowB g) : f = g := by
  have h1 := getFl_put hf
  rw [h, getFl_put hg] at h1
  exact (congrArg Prod.fst h1).symm
end Go.Proofs.YtclbjbhpncpmbaaGreatDoor

/- Of a flow's bytes no beginning but all of them, and nothing longer, is a flow's. No program. No condition. -/
namespace Go.Proofs.YtclbjbhpncpmbaaGreatDoor

theorem parts_free : ∀ (ps qs : List (List Nat)) (k : Nat) (a b : List Nat) (l : List Fra), partsF k ps ++ ((3 : Int), a) :: l = partsF k qs ++ [((3 : Int), b)] → l = []
  | [], [], _, _, _, _, h => by
    simp only [partsF, List.nil_append] at h
    injection h
  | [], _ :: _, _, _, _, _, h => by
    simp only [partsF, List.nil_append, List.cons_append] at h
    injection h with h1 _
    injection h1 with h1 _
    exact absurd h1 (by decide)
  | _ :: _, [], _, _, _, _, h => by
    simp only [partsF, List.nil_append, List.cons_append] at h
    injection h with h1 _
    injection h1 with h1 _
    exact absurd h1 (by decide)
  | _ :: ps, _ :: qs, k, a, b, l, h => by
    simp only [partsF, List.cons_append] at h
    injection h with _ h2
    exact parts_free ps qs (k + 1) a b l h2
theorem frames_free {f g : Flo} {l : List Fra} (h : framesF f ++ l = framesF g) : l = [] := by
  simp only [framesF, List.cons_append, List.append_assoc, List.nil_append] at h
  injection h with _ h2
  exact parts_free _ _ _ _ _ _ h2
theorem allL_app : ∀ (l : List Fra) (r : List Nat), (∀ f ∈ l, Fit f) → allL (catL l ++ r) = if (allL r).1 ≠ 0 then ((allL r).1, []) else (0, l ++ (allL r).2)
  | [], r, _ => by
    simp only [catL, List.nil_append]
    have := joinL_nil r
    rw [joinL] at this
    rw [← this]
    split <;> simp_all
  | f :: l, r, h => by
    have h1 := h f (by simp)
    simp only [catL, List.append_assoc]
    rw [allL_put, allL_app l r fun g hg => h g (by simp [hg])]
    have : ((f.1.toNat : Nat) : Int) = f.1 := Int.toNat_of_nonneg h1.1
    rw [this]
    by_cases hr : (allL r).1 = 0
    · simp [hr]
    · simp [hr]
/-- Nothing longer is a flow's. -/
theorem flow_free {f g : Flo} {r : List Nat} (hf : OkF f) (hg : OkF g) (h : flowB f ++ r = flowB g) : r = [] := by
  have h1 := allL_cat (framesF g) (framesF_fit hg)
  have h2 := allL_app (framesF f) r (framesF_fit hf)
  rw [show catL (framesF f) = flowB f from rfl, h, show flowB g = catL (framesF g) from rfl, h1] at h2
  by_cases hr : (allL r).1 = 0
  · rw [if_neg (by simpa using hr)] at h2
    have h3 := frames_free (congrArg Prod.snd h2).symm
    have hb : ∀ x ∈ r, x < 256 := fun x hx => flowB_byte hg x (by rw [← h]; exact List.mem_append_right _ hx)
    have h4 := (allL_back r.length r (Nat.le_refl _) hb hr).1
    rw [h3] at h4
    exact h4.symm
  · rw [if_pos hr] at h2
    exact absurd (congrArg Prod.fst h2).symm hr
theorem getFl_cut {f : Flo} (hf : OkF f) {k : Nat} (hk : k < (flowB f).length) : (getFl ((flowB f).take k)).2 ≠ 0 := by
  intro h
  have hb := flowB_byte hf
  obtain ⟨h1, h2, _⟩ := getFl_back (bs := (flowB f).take k) (fun x hx => hb x (List.mem_of_mem_take hx)) h
  have h3 := flow_free (r := (flowB f).drop k) h1 hf (by rw [h2, List.take_append_drop])
  have := congrArg List.length h3
  rw [List.length_drop] at this
  simp at this
  omega
theorem getFl_more {f : Flo} (hf : OkF f) {r : List Nat} (hr : ∀ x ∈ r, x < 256) : ((getFl (flowB f ++ r)).2 = 0) ↔ r = [] := by
  constructor
  · intro h
    have hb := flowB_byte hf
    obtain ⟨h1, h2, _⟩ := getFl_back (bs := flowB f ++ r) (fun x hx => by
      rcases List.mem_append.1 hx with h | h
      · exact hb x h
      · exact hr x h) h
    exact flow_free hf h1 h2.symm
  · rintro rfl
    rw [List.append_nil, getFl_put hf]
end Go.Proofs.YtclbjbhpncpmbaaGreatDoor

/- Graphs as bytes, on plain data: the parts that are put, the graph that parts are, and the laws between these. No condition. -/
namespace Go.Proofs.YtclbjbhpncpmbaaGreatDoor

/-- Roots as bytes. -/
def rootsB (l : List Int) : List Nat := catV (l.map fun r => (r + 1).toNat)
/-- Values as bytes. -/
def valsB : List Fld → List Vl → List Nat
  | f :: fs, v :: vs => putVF f.2.1 v ++ valsB fs vs
  | _, _ => []
def objB (s : Sch) (o : Ob) : List Nat := vputL o.2.1.toNat ++ valsB (fldsG s o.2.1) o.2.2
/-- The parts of a Canon. -/
def partsG (c : Gr) : List (List Nat) := sText c.1 :: rootsB c.2.2 :: c.2.1.map (objB c.1)
def codeF (g : Gr) : Flo := (0, partsG (canonG g))
def codeE (g : Gr) : Int := if mayG g = true then (if mayB (codeF g) = true then 0 else 5) else 1
def codeB (g : Gr) : List Nat := if codeE g = 0 then flowB (codeF g) else []
/-- Roots of bytes. -/
def rootsL (b : List Nat) : Option (List Int) := (vallL b).bind fun l => if ∀ n ∈ l, n ≤ 1073741825 then some (l.map fun n : Nat => (n : Int) - 1) else none
/-- Values of bytes, and what stands behind. -/
def valsL : List Fld → List Nat → Option (List Vl × List Nat)
  | [], b => some ([], b)
  | f :: fs, b => (getV f.2.1 b).bind fun p => (valsL fs (b.drop p.2)).map fun q => (p.1 :: q.1, q.2)
def objL (s : Sch) (id : Nat) (b : List Nat) : Option Ob :=
  if (getL b).2 = 0 ∨ s.length ≤ (getL b).1 then none
  else (valsL (fldsG s ((getL b).1 : Int)) (b.drop (getL b).2)).bind fun p => if p.2 = [] then some ((id : Int), ((getL b).1 : Int), p.1) else none
def objsL (s : Sch) : Nat → List (List Nat) → Option (List Ob)
  | _, [] => some []
  | i, b :: bs => (objL s i b).bind fun o => (objsL s (i + 1) bs).map (o :: ·)
/-- The graph that parts are. -/
def graphL : List (List Nat) → Option Gr
  | a :: b :: os => (readS a).bind fun s => (rootsL b).bind fun r => (objsL s 0 os).map fun l => (s, l, r)
  | _ => none
/-- What bytes are, or why not. -/
def codeG (b : List Nat) : Gr × Int :=
  if (getFl b).2 ≠ 0 then (([], [], []), ((getFl b).2 : Int))
  else match graphL (getFl b).1.2 with
    | none => (([], [], []), 2)
    | some x => if codeE x = 0 ∧ codeB x = b then (x, 0) else (([], [], []), 2)

/-- Values as they are in memory. -/
def OkG (g : Gr) : Prop := ∀ o ∈ g.2.1, ∀ v ∈ o.2.2, OkV v
theorem vals_back : ∀ {fs : List Fld} {vs : List Vl} (r : List Nat), fs.length = vs.length → (∀ (k : Nat) f v, fs[k]? = some f → vs[k]? = some v → fitsV f.2.1 v = true ∧ OkV v) → valsL fs (valsB fs vs ++ r) = some (vs, r)
  | [], [], _, _, _ => rfl
  | [], _ :: _, _, h, _ => by simp at h
  | _ :: _, [], _, h, _ => by simp at h
  | f :: fs, v :: vs, r, h, hk => by
    obtain ⟨h1, h2⟩ := hk 0 f v rfl rfl
    have ih := vals_back (fs := fs) (vs := vs) r (by simpa using h) (fun k a b ha hb => hk (k + 1) a b (by simpa using ha) (by simpa using hb))
    rw [valsB, valsL, putVF_yes h1, List.append_assoc, vl_get_put h2 h1]
    simp only [Option.bind_some]
    rw [List.drop_left, ih]
    rfl
theorem vals_byte : ∀ {fs : List Fld} {vs : List Vl}, (∀ v ∈ vs, OkV v) → ∀ x ∈ valsB fs vs, x < 256
  | [], _, _ => by simp [valsB]
  | _ :: _, [], _ => by simp [valsB]
  | f :: fs, v :: vs, h => fun x hx => by
    rw [valsB, List.mem_append] at hx
    rcases hx with hx | hx
    · exact putVF_byte (h v (by simp)) x hx
    · exact vals_byte (fun v hv => h v (by simp [hv])) x hx
theorem roots_back {l : List Int} (h : ∀ r ∈ l, -1 ≤ r ∧ r ≤ 1073741824) : rootsL (rootsB l) = some l := by
  rw [rootsL, rootsB, vall_cat _ (fun n hn => by
    obtain ⟨r, hr, rfl⟩ := List.mem_map.1 hn
    have := h r hr
    omega)]
  simp only [Option.bind_some]
  rw [if_pos (fun n hn => by
    obtain ⟨r, hr, rfl⟩ := List.mem_map.1 hn
    have := h r hr
    omega), List.map_map]
  congr 1
  conv => rhs; rw [← List.map_id l]
  refine List.map_congr_left fun r hr => ?_
  have := h r hr
  show (((r + 1).toNat : Nat) : Int) - 1 = r
  omega
theorem catV_byte : ∀ (l : List Nat), ∀ x ∈ catV l, x < 256
  | [] => by simp [catV]
  | n :: l => fun x hx => by
    rw [catV, List.mem_append] at hx
    rcases hx with hx | hx
    · exact vputL_byte n x hx
    · exact catV_byte l x hx
theorem may_vals {g : Gr} (hm : mayG g = true) (hok : OkG g) {o : Ob} (ho : o ∈ g.2.1) : ∀ (k : Nat) f v, (fldsG g.1 o.2.1)[k]? = some f → o.2.2[k]? = some v → fitsV f.2.1 v = true ∧ OkV v := fun k f v hf hv => by
  have := (mayG_obj hm ho).have' k f v hf hv
  rw [haveG, Bool.and_eq_true] at this
  exact ⟨this.1, hok o ho v (List.mem_of_getElem? hv)⟩
theorem obj_back {g : Gr} (hm : mayG g = true) (hok : OkG g) {o : Ob} (ho : o ∈ g.2.1) (id : Nat) : objL g.1 id (objB g.1 o) = some ((id : Int), o.2.1, o.2.2) := by
  have hmo := mayG_obj hm ho
  have ht : ((o.2.1.toNat : Nat) : Int) = o.2.1 := by have := hmo.t0; omega
  have hS := (mayS_iff g.1).1 (mayG_parts hm).1
  have hn : o.2.1.toNat < 18446744073709551616 := by have := hmo.t1; have := hS.1; omega
  have h1 := getL_put o.2.1.toNat (valsB (fldsG g.1 o.2.1) o.2.2) hn
  have h0 := putL_pos o.2.1.toNat
  have hv := vals_back (fs := fldsG g.1 o.2.1) (vs := o.2.2) [] hmo.len (may_vals hm hok ho)
  rw [List.append_nil] at hv
  rw [objL, objB, h1, if_neg (by have := hmo.t1; simp only []; omega)]
  simp only []
  rw [ht, List.drop_left, hv]
  rfl
theorem objs_back {g : Gr} (hm : mayG g = true) (hok : OkG g) : ∀ {l : List Ob} (i : Nat), (∀ o ∈ l, o ∈ g.2.1) → (∀ (j : Nat) o, l[j]? = some o → o.1 = ((i + j : Nat) : Int)) → objsL g.1 i (l.map (objB g.1)) = some l
  | [], _, _, _ => rfl
  | o :: l, i, h, hi => by
    have e : o.1 = (i : Int) := hi 0 o rfl
    have ih := objs_back hm hok (l := l) (i + 1) (fun p hp => h p (by simp [hp])) (fun j p hp => by
      have := hi (j + 1) p (by simpa using hp)
      rw [this]; congr 1; omega)
    rw [List.map_cons, objsL, obj_back hm hok (h o (by simp)) i]
    simp only [Option.bind_some]
    rw [ih, ← e]
    rfl
theorem root_range {g : Gr} (hm : mayG g = true) : ∀ r ∈ g.2.2, -1 ≤ r ∧ r ≤ 1073741824 := fun r hr => by
  rcases roots_led hm r hr with rfl | ⟨o, ho, rfl⟩
  · omega
  · have := mayG_obj hm ho
    have := this.id0
    have := (mayG_obj hm ho).id1
    omega
/-- The parts of a graph by Ids from 0 on are that graph's. -/
theorem graph_back {c : Gr} (hm : mayG c = true) (hok : OkG c) (hid : ∀ (j : Nat) o, c.2.1[j]? = some o → o.1 = (j : Int)) : graphL (partsG c) = some c := by
  rw [partsG, graphL]
  have h1 : readS (sText c.1) = some c.1 := (readS_iff _ _).2 ⟨(mayG_parts hm).1, rfl⟩
  rw [h1]
  simp only [Option.bind_some]
  rw [roots_back (root_range hm)]
  simp only [Option.bind_some]
  rw [objs_back hm hok 0 (fun o ho => ho) (fun j o h => by rw [hid j o h]; congr 1; omega)]
  rfl
theorem canon_ids {g : Gr} (hm : mayG g = true) : ∀ (j : Nat) o, (canonG g).2.1[j]? = some o → o.1 = (j : Int) := fun j o h => by
  have hl : j < (ordG g).length := by rw [← canon_len hm]; exact (List.getElem?_eq_some_iff.1 h).1
  obtain ⟨x, hx⟩ : ∃ x, (ordG g)[j]? = some x := ⟨_, List.getElem?_eq_getElem hl⟩
  rw [canon_at hm hx] at h
  injection h with h
  subst h
  rfl
theorem lead_ok {f : Int → Int} : ∀ {fs : List Fld} {vs : List Vl}, (∀ v ∈ vs, OkV v) → ∀ v ∈ leadV f fs vs, OkV v
  | _ :: fs, v :: vs, h => fun u hu => by
    rw [leadV, List.mem_cons] at hu
    rcases hu with rfl | hu
    · have := h v (by simp)
      split
      · exact this
      · exact this
    · exact lead_ok (fun v hv => h v (by simp [hv])) u hu
  | [], vs, h => by rw [leadV]; exact h
  | _ :: _, [], _ => by simp [leadV]
theorem canon_ok {g : Gr} (hok : OkG g) : OkG (canonG g) := by
  by_cases hm : mayG g = true
  · intro o ho
    obtain ⟨j, hj⟩ := List.getElem?_of_mem ho
    have hl : j < (ordG g).length := by rw [← canon_len hm]; exact (List.getElem?_eq_some_iff.1 hj).1
    obtain ⟨x, hx⟩ : ∃ x, (ordG g)[j]? = some x := ⟨_, List.getElem?_eq_getElem hl⟩
    rw [canon_at hm hx] at hj
    injection hj with hj
    subst hj
    obtain ⟨p, hp, -, he⟩ := ord_obj hm (List.mem_of_getElem? hx)
    rw [canO, he]
    exact lead_ok (hok p hp)
  · rw [canonG, if_neg hm]
    intro o ho
    cases ho
theorem code_parts {g : Gr} (hm : mayG g = true) (hok : OkG g) : graphL (partsG (canonG g)) = some (canonG g) := graph_back (canon_may hm) (canon_ok hok) (canon_ids hm)
end Go.Proofs.YtclbjbhpncpmbaaGreatDoor

/- Graphs as bytes: what is put is read, what is read is put; graphs that are alike, and others; which bytes are none's; on plain data. No condition. -/
namespace Go.Proofs.YtclbjbhpncpmbaaGreatDoor

theorem encS_byte {c : Nat} (h : c < 2048) : ∀ x ∈ encS c, x < 256 := fun x hx => by
  rw [encS] at hx
  split at hx
  · simp at hx; omega
  · simp at hx; omega
theorem encL_byte : ∀ {l : List Nat}, (∀ c ∈ l, c < 2048) → ∀ x ∈ encL l, x < 256
  | [], _ => by simp [encL]
  | c :: l, h => fun x hx => by
    rw [encL, List.mem_append] at hx
    rcases hx with hx | hx
    · exact encS_byte (h c (by simp)) x hx
    · exact encL_byte (fun c hc => h c (by simp [hc])) x hx
theorem name_byte {a : List Nat} (h : mayN a = true) : ∀ x ∈ a, x < 256 := by
  rw [← may_enc h]
  exact encL_byte (may_lt h)
theorem kindT_byte (k : Int) : ∀ x ∈ kindT k, x < 256 := fun x hx => by
  rw [kindT] at hx
  repeat' split at hx
  all_goals (simp at hx; omega)
theorem fsText_byte : ∀ {fs : List Fld}, (∀ f ∈ fs, (∀ x ∈ f.1, x < 256) ∧ ∀ x ∈ f.2.2, x < 256) → ∀ x ∈ fsText fs, x < 256
  | [], _ => by simp [fsText]
  | [f], h => fun x hx => by
    obtain ⟨h1, h2⟩ := h f (by simp)
    simp only [fsText, fText, List.mem_append, List.mem_cons] at hx
    rcases hx with hx | rfl | hx | hx
    · exact h1 x hx
    · omega
    · exact kindT_byte _ x hx
    · exact h2 x hx
  | f :: f' :: fs, h => fun x hx => by
    obtain ⟨h1, h2⟩ := h f (by simp)
    rw [fsText] at hx
    simp only [fText, List.mem_append, List.mem_cons] at hx
    rcases hx with (hx | rfl | hx | hx) | rfl | hx
    · exact h1 x hx
    · omega
    · exact kindT_byte _ x hx
    · exact h2 x hx
    · omega
    · exact fsText_byte (fun f hf => h f (by simp [hf])) x hx
theorem sText_byteL : ∀ {s : Sch}, (∀ t ∈ s, (∀ x ∈ t.1, x < 256) ∧ ∀ f ∈ t.2, (∀ x ∈ f.1, x < 256) ∧ ∀ x ∈ f.2.2, x < 256) → ∀ x ∈ sText s, x < 256
  | [], _ => by simp [sText]
  | t :: s, h => fun x hx => by
    obtain ⟨h1, h2⟩ := h t (by simp)
    simp only [sText, tText, List.mem_append, List.mem_cons, List.not_mem_nil, or_false] at hx
    rcases hx with (hx | rfl | hx | rfl) | hx
    · exact h1 x hx
    · omega
    · exact fsText_byte h2 x hx
    · omega
    · exact sText_byteL (fun t ht => h t (by simp [ht])) x hx
theorem sText_byte {s : Sch} (hm : mayS s = true) : ∀ x ∈ sText s, x < 256 := by
  obtain ⟨_, h2⟩ := (mayS_iff s).1 hm
  have hn : ∀ t ∈ s, mayN t.1 = true := fun t ht => by
    obtain ⟨i, hi⟩ := List.getElem?_of_mem ht
    exact ((mayT_iff s i t).1 (h2 i t hi)).1
  refine sText_byteL fun t ht => ⟨name_byte (hn t ht), fun f hf => ?_⟩
  obtain ⟨i, hi⟩ := List.getElem?_of_mem ht
  obtain ⟨_, _, _, h4⟩ := (mayT_iff s i t).1 (h2 i t hi)
  obtain ⟨j, hj⟩ := List.getElem?_of_mem hf
  obtain ⟨h5, _, h6⟩ := (mayF_iff s t.2 j f).1 (h4 j f hj)
  refine ⟨name_byte h5, ?_⟩
  rw [leadS] at h6
  by_cases hk : f.2.1 = 5
  · rw [if_pos hk, decide_eq_true_iff] at h6
    obtain ⟨t', ht', hn'⟩ := findS_some h6
    rw [← hn']
    exact name_byte (hn t' ht')
  · rw [((mayS_good hm) t ht).2 f hf |>.2.2.2 hk]
    simp
theorem parts_byte {c : Gr} (hm : mayG c = true) (hok : OkG c) : ∀ p ∈ partsG c, ∀ x ∈ p, x < 256 := fun p hp => by
  rw [partsG, List.mem_cons, List.mem_cons] at hp
  rcases hp with rfl | rfl | hp
  · exact sText_byte (mayG_parts hm).1
  · exact catV_byte _
  · obtain ⟨o, ho, rfl⟩ := List.mem_map.1 hp
    intro x hx
    rw [objB, List.mem_append] at hx
    rcases hx with hx | hx
    · exact vputL_byte _ x hx
    · exact vals_byte (hok o ho) x hx
theorem vals_len : ∀ {fs : List Fld} {vs : List Vl}, (∀ v ∈ vs, OkV v) → (valsB fs vs).length ≤ 13 * fs.length
  | [], _, _ => by simp [valsB]
  | _ :: _, [], _ => by simp [valsB]
  | f :: fs, v :: vs, h => by
    have h1 := putVF_len (k := f.2.1) (h v (by simp))
    have h2 := vals_len (fs := fs) (vs := vs) (fun v hv => h v (by simp [hv]))
    rw [valsB, List.length_append, List.length_cons]
    omega
theorem catV_len5 : ∀ {l : List Nat}, (∀ n ∈ l, n < 4294967296) → (catV l).length ≤ 5 * l.length
  | [], _ => by simp [catV]
  | n :: l, h => by
    have h1 := vputL_len5 (h n (by simp))
    have h2 := catV_len5 (l := l) (fun n hn => h n (by simp [hn]))
    rw [catV, List.length_append, List.length_cons]
    omega
theorem fldsG_few {s : Sch} (hm : mayS s = true) (t : Int) : (fldsG s t).length ≤ 5 := by
  rw [fldsG, List.getD_eq_getElem?_getD]
  cases h : s[t.toNat]? with
  | none => simp
  | some x => exact ((mayT_iff _ _ _).1 (((mayS_iff _).1 hm).2 _ x h)).2.2.1
theorem obj_len {g : Gr} (hm : mayG g = true) (hok : OkG g) {o : Ob} (ho : o ∈ g.2.1) : (objB g.1 o).length ≤ 66 := by
  have hmo := mayG_obj hm ho
  have hS := ((mayS_iff g.1).1 (mayG_parts hm).1).1
  have h1 := vals_len (fs := fldsG g.1 o.2.1) (hok o ho)
  have h2 := fldsG_few (mayG_parts hm).1 o.2.1
  rw [objB, List.length_append, putL_small (by have := hmo.t1; omega), List.length_singleton]
  omega
theorem roots_len {g : Gr} (hm : mayG g = true) : (rootsB g.2.2).length ≤ 15 := by
  have h3 := (mayG_parts hm).2.2.2.1
  have := catV_len5 (l := g.2.2.map fun r => (r + 1).toNat) (fun n hn => by
    obtain ⟨r, hr, rfl⟩ := List.mem_map.1 hn
    have := root_range hm r hr
    omega)
  rw [List.length_map] at this
  rw [rootsB]
  omega
theorem canon_sch {g : Gr} (hm : mayG g = true) : (canonG g).1 = g.1 := by rw [canonG, if_pos hm]
/-- Just the schema's text may be too long. -/
theorem code_lim {g : Gr} (hm : mayG g = true) (hok : OkG g) : mayB (codeF g) = decide ((sText g.1).length ≤ 200) := by
  have hc := canon_may hm
  have hco := canon_ok hok
  have e1 : (codeF g).2 = partsG (canonG g) := rfl
  have h8 := (mayG_parts hc).2.1
  rw [mayB, e1, partsG, canon_sch hm]
  simp only [List.length_cons, List.length_map, List.all_cons]
  have h40 : decide ((canonG g).2.1.length + 1 + 1 ≤ 40) = true := decide_eq_true (by omega)
  have hr : decide ((rootsB (canonG g).2.2).length ≤ 200) = true := decide_eq_true (by have := roots_len hc; omega)
  have ho : (((canonG g).2.1.map (objB g.1)).all fun p => decide (p.length ≤ 200)) = true := by
    rw [List.all_eq_true]
    intro p hp
    obtain ⟨o, ho, rfl⟩ := List.mem_map.1 hp
    have := obj_len hc hco ho
    rw [canon_sch hm] at this
    exact decide_eq_true (by omega)
  rw [h40, hr, ho]
  simp
theorem codeE_lim {g : Gr} (hm : mayG g = true) (hok : OkG g) : codeE g = if (sText g.1).length ≤ 200 then 0 else 5 := by
  rw [codeE, if_pos hm, code_lim hm hok]
  by_cases h : (sText g.1).length ≤ 200
  · rw [if_pos h, decide_eq_true h, if_pos rfl]
  · rw [if_neg h, decide_eq_false h, if_neg (by decide)]
theorem codeE_may {g : Gr} (h : codeE g = 0) : mayG g = true := by
  rw [codeE] at h
  split at h
  · assumption
  · cases h
theorem codeE_arg {g : Gr} : codeE g = 1 ↔ mayG g = false := by
  rw [codeE]
  split
  · rename_i h
    rw [h]
    split <;> simp
  · rename_i h
    simp at h
    simp [h]
theorem code_okF {g : Gr} (hok : OkG g) (h : codeE g = 0) : OkF (codeF g) := by
  have hm := codeE_may h
  rw [codeE, if_pos hm] at h
  refine ⟨Int.le_refl _, by show (0 : Int) ≤ _; omega, ?_, parts_byte (canon_may hm) (canon_ok hok)⟩
  split at h
  · assumption
  · cases h
theorem codeF_canon {g : Gr} (hm : mayG g = true) : codeF (canonG g) = codeF g := by rw [codeF, codeF, canon_twice hm]
theorem codeE_canon {g : Gr} (hm : mayG g = true) : codeE (canonG g) = codeE g := by rw [codeE, codeE, codeF_canon hm, if_pos hm, if_pos (canon_may hm)]
theorem codeB_canon {g : Gr} (hm : mayG g = true) : codeB (canonG g) = codeB g := by rw [codeB, codeB, codeF_canon hm, codeE_canon hm]
/-- What is put is read as the Canon. -/
theorem code_get {g : Gr} (hok : OkG g) (h : codeE g = 0) : codeG (codeB g) = (canonG g, 0) := by
  have hm := codeE_may h
  have hf := getFl_put (code_okF hok h)
  have e : codeB g = flowB (codeF g) := if_pos h
  rw [codeG, e, hf, if_neg (fun h => h rfl)]
  show (match graphL (partsG (canonG g)) with | none => _ | some x => _) = _
  rw [code_parts hm hok]
  show (if codeE (canonG g) = 0 ∧ codeB (canonG g) = flowB (codeF g) then _ else _) = _
  rw [if_pos ⟨by rw [codeE_canon hm]; exact h, by rw [codeB_canon hm]; exact e⟩]
/-- Graphs of one Canon have the same bytes, or the same error. -/
theorem code_same {g h : Gr} (hg : mayG g = true) (hh : mayG h = true) (e : canonG g = canonG h) : codeE g = codeE h ∧ codeB g = codeB h := by
  have hf : codeF g = codeF h := by rw [codeF, codeF, e]
  have he : codeE g = codeE h := by rw [codeE, codeE, hf, if_pos hg, if_pos hh]
  exact ⟨he, by rw [codeB, codeB, he, hf]⟩
theorem code_inj {g h : Gr} (og : OkG g) (oh : OkG h) (eg : codeE g = 0) (eh : codeE h = 0) (e : codeB g = codeB h) : canonG g = canonG h := by
  have h1 := code_get og eg
  rw [e, code_get oh eh] at h1
  injection h1 with h1
  exact h1.symm
theorem code_iso {g h : Gr} (og : OkG g) (oh : OkG h) (eg : codeE g = 0) (eh : codeE h = 0) : decide (codeB g = codeB h) = isoG g h := by
  rw [isoG, codeE_may eg, codeE_may eh]
  exact decide_eq_decide.2 ⟨code_inj og oh eg eh, fun e => (code_same (codeE_may eg) (codeE_may eh) e).2⟩
/-- What is read has values as they are in memory. -/
theorem valsL_ok : ∀ {fs : List Fld} {b r : List Nat} {vs : List Vl}, (∀ x ∈ b, x < 256) → valsL fs b = some (vs, r) → (∀ v ∈ vs, OkV v) ∧ ∀ x ∈ r, x < 256
  | [], b, r, vs, hb, h => by
    rw [valsL] at h
    injection h with h
    injection h with h1 h2
    subst h1 h2
    exact ⟨by simp, hb⟩
  | f :: fs, b, r, vs, hb, h => by
    rw [valsL] at h
    cases hg : getV f.2.1 b with
    | none => rw [hg] at h; cases h
    | some p =>
      rw [hg] at h
      simp only [Option.bind_some] at h
      cases hv : valsL fs (b.drop p.2) with
      | none => rw [hv] at h; cases h
      | some q =>
        rw [hv] at h
        injection h with h
        injection h with h1 h2
        subst h1 h2
        obtain ⟨i1, i2⟩ := valsL_ok (fun x hx => hb x (List.mem_of_mem_drop hx)) hv
        refine ⟨fun v hv => ?_, i2⟩
        rcases List.mem_cons.1 hv with rfl | hv
        · exact (vl_get_back hb hg).2.2.2
        · exact i1 v hv
theorem objL_ok {s : Sch} {i : Nat} {b : List Nat} {o : Ob} (hb : ∀ x ∈ b, x < 256) (h : objL s i b = some o) : ∀ v ∈ o.2.2, OkV v := by
  rw [objL] at h
  split at h
  · cases h
  · cases hv : valsL (fldsG s ((getL b).1 : Int)) (b.drop (getL b).2) with
    | none => rw [hv] at h; cases h
    | some p =>
      rw [hv] at h
      simp only [Option.bind_some] at h
      split at h
      · injection h with h
        subst h
        exact (valsL_ok (fun x hx => hb x (List.mem_of_mem_drop hx)) hv).1
      · cases h
theorem objsL_ok {s : Sch} : ∀ {i : Nat} {bs : List (List Nat)} {l : List Ob}, (∀ b ∈ bs, ∀ x ∈ b, x < 256) → objsL s i bs = some l → ∀ o ∈ l, ∀ v ∈ o.2.2, OkV v
  | i, [], l, _, h => by
    rw [objsL] at h
    injection h with h
    subst h
    simp
  | i, b :: bs, l, hb, h => by
    rw [objsL] at h
    cases ho : objL s i b with
    | none => rw [ho] at h; cases h
    | some o =>
      rw [ho] at h
      simp only [Option.bind_some] at h
      cases hr : objsL s (i + 1) bs with
      | none => rw [hr] at h; cases h
      | some r =>
        rw [hr] at h
        injection h with h
        subst h
        intro p hp
        rcases List.mem_cons.1 hp with rfl | hp
        · exact objL_ok (hb b (by simp)) ho
        · exact objsL_ok (fun b hb' => hb b (by simp [hb'])) hr p hp
theorem graphL_ok {l : List (List Nat)} {x : Gr} (hb : ∀ b ∈ l, ∀ y ∈ b, y < 256) (h : graphL l = some x) : OkG x := by
  match l, h with
  | a :: b :: os, h =>
    rw [graphL] at h
    cases h1 : readS a with
    | none => rw [h1] at h; cases h
    | some s =>
      rw [h1] at h
      simp only [Option.bind_some] at h
      cases h2 : rootsL b with
      | none => rw [h2] at h; cases h
      | some r =>
        rw [h2] at h
        simp only [Option.bind_some] at h
        cases h3 : objsL s 0 os with
        | none => rw [h3] at h; cases h
        | some q =>
          rw [h3] at h
          injection h with h
          subst h
          exact objsL_ok (fun b hb' => hb b (by simp [hb'])) h3
  | [], h => cases h
  | [_], h => cases h
theorem codeG_0 {b : List Nat} (hb : ∀ x ∈ b, x < 256) (h : (codeG b).2 = 0) : (getFl b).2 = 0 ∧ graphL (getFl b).1.2 = some (codeG b).1 ∧ codeE (codeG b).1 = 0 ∧ codeB (codeG b).1 = b ∧ OkG (codeG b).1 := by
  by_cases hf : (getFl b).2 = 0
  · have hok := (getFl_back hb hf).1
    rw [codeG, if_neg (by simpa using hf)] at h ⊢
    cases hg : graphL (getFl b).1.2 with
    | none => rw [hg] at h; cases h
    | some x =>
      rw [hg] at h
      simp only at h ⊢
      split at h
      · rename_i hx
        rw [if_pos hx]
        exact ⟨hf, rfl, hx.1, hx.2, graphL_ok hok.byte hg⟩
      · cases h
  · rw [codeG, if_pos hf] at h
    have h' : (((getFl b).2 : Nat) : Int) = 0 := h
    exact absurd (by omega) hf
/-- What is read is put as the same bytes, and is its own Canon. -/
theorem codeG_back {b : List Nat} (hb : ∀ x ∈ b, x < 256) (h : (codeG b).2 = 0) : codeE (codeG b).1 = 0 ∧ codeB (codeG b).1 = b ∧ canonG (codeG b).1 = (codeG b).1 := by
  obtain ⟨h1, h2, h3, h4, h5⟩ := codeG_0 hb h
  refine ⟨h3, h4, ?_⟩
  have := code_get h5 h3
  rw [h4] at this
  exact (congrArg Prod.fst this).symm
theorem codeG_bad {b : List Nat} (h : (codeG b).2 ≠ 0) : (codeG b).1 = ([], [], []) := by
  rw [codeG] at h ⊢
  split
  · rfl
  · rename_i hf
    rw [if_neg hf] at h
    cases hg : graphL (getFl b).1.2 with
    | none => rfl
    | some x =>
      rw [hg] at h
      simp only at h ⊢
      split
      · rename_i hx
        rw [if_pos hx] at h
        exact absurd rfl h
      · rfl
theorem codeG_flow {b : List Nat} (h : (getFl b).2 ≠ 0) : codeG b = (([], [], []), ((getFl b).2 : Int)) := if_pos h
end Go.Proofs.YtclbjbhpncpmbaaGreatDoor

/- Bytes of graphs that are swept, have a new object, or another value; bytes that are damaged, cut, or have more behind; on plain data. No condition. -/
namespace Go.Proofs.YtclbjbhpncpmbaaGreatDoor

theorem code_sweep {g : Gr} (hm : mayG g = true) : codeE (sweepG g) = codeE g ∧ codeB (sweepG g) = codeB g := code_same (sweepG_may hm) hm (canon_sweep hm)
theorem canon_new {g : Gr} {t : Int} (h : newE g t = 0) : canonG (newG g t) = canonG g := by
  have hm := (newE_0 h).1
  have hn := newG_may h
  have e : newG g t = (g.1, g.2.1 ++ [(nextG g.2.1, t, (fldsG g.1 t).map fun f => zeroV f.2.1)], g.2.2) := if_pos h
  have R : Ren (fun x => x) (· ∈ ordG g) g (newG g t) := by
    refine ⟨by rw [e], ?_, fun r hr h0 => ordG_root hm hr h0, fun x hx r hr h0 => ordG_shut hm x hx r hr h0, fun x y _ _ e => e, fun x hx => ordG_pos hm hx, fun x hx => ?_⟩
    · rw [e]
      conv => lhs; rw [← List.map_id g.2.2]
      exact List.map_congr_left fun r _ => (ren_id r).symm
    · obtain ⟨o, ho, rfl, hoo⟩ := ord_obj hm hx
      have hs : o ∈ (newG g t).2.1 := by rw [e]; exact List.mem_append_left _ ho
      rw [obj_of hn hs, hoo, lead_id]
  exact R.canon hm hn fun _ h => h
theorem code_new {g : Gr} {t : Int} (h : newE g t = 0) : codeE (newG g t) = codeE g ∧ codeB (newG g t) = codeB g := code_same (newG_may h) (newE_0 h).1 (canon_new h)
theorem list_set_here {α : Type} {xs : List α} {p : Nat} {a : α} (h : xs[p]? = some a) : xs.set p a = xs := by
  refine List.ext_getElem? fun j => ?_
  rw [List.getElem?_set]
  split
  · rename_i e
    subst e
    rw [if_pos (List.getElem?_eq_some_iff.1 h).1, h]
  · rfl
theorem setN_e {g : Gr} {id : Int} {k I : Nat} {v : Vl} {o : Ob} (he : setE g id (k : Int) v = 0) (hI : findG g.2.1 id = (I : Int)) (ho : g.2.1[I]? = some o) : setN g id (k : Int) v = (g.1, g.2.1.set I (o.1, o.2.1, o.2.2.set k v), g.2.2) := by
  rw [setN, if_pos he, hI, objG_at hI ho, Int.toNat_natCast, Int.toNat_natCast]
theorem setN_here {g : Gr} {id : Int} {k I : Nat} {v : Vl} {o : Ob} (he : setE g id (k : Int) v = 0) (hI : findG g.2.1 id = (I : Int)) (ho : g.2.1[I]? = some o) (hv : o.2.2[k]? = some v) : setN g id (k : Int) v = g := by
  rw [setN_e he hI ho, list_set_here hv, list_set_here ho]
theorem setN_sch {g : Gr} {id k : Int} {v : Vl} : (setN g id k v).1 = g.1 := by
  rw [setN]
  split <;> rfl
theorem setN_ok {g : Gr} {id k : Int} {v : Vl} (hok : OkG g) (hv : OkV v) : OkG (setN g id k v) := by
  by_cases he : setE g id k v = 0
  · obtain ⟨I, kn, o, v0, hI, ho, rfl, -⟩ := set_back he
    rw [setN_e he hI ho]
    intro p hp u hu
    rcases List.mem_or_eq_of_mem_set hp with h | h
    · exact hok p h u hu
    · subst h
      rcases List.mem_or_eq_of_mem_set hu with h | h
      · exact hok o (List.mem_of_getElem? ho) u h
      · subst h; exact hv
  · rw [setN, if_neg he]
    exact hok
/-- Another value changes no error. -/
theorem code_set {g : Gr} {id k : Int} {v : Vl} (he : setE g id k v = 0) (hok : OkG g) (hv : OkV v) : codeE (setN g id k v) = codeE g := by
  rw [codeE_lim (setN_may he) (setN_ok hok hv), codeE_lim (setE_0 he).1 hok, setN_sch]
theorem code_cut {g : Gr} (hok : OkG g) (h : codeE g = 0) {k : Nat} (hk : k < (codeB g).length) : (codeG ((codeB g).take k)).2 ≠ 0 := by
  have e : codeB g = flowB (codeF g) := if_pos h
  rw [e] at hk ⊢
  have := getFl_cut (code_okF hok h) hk
  rw [codeG_flow this]
  show (((getFl ((flowB (codeF g)).take k)).2 : Nat) : Int) ≠ 0
  omega
theorem code_more {g : Gr} (hok : OkG g) (h : codeE g = 0) {r : List Nat} (hr : ∀ x ∈ r, x < 256) : (codeG (codeB g ++ r)).2 = 0 ↔ r = [] := by
  constructor
  · intro h2
    have e : codeB g = flowB (codeF g) := if_pos h
    rw [e] at h2
    have hb : ∀ x ∈ flowB (codeF g) ++ r, x < 256 := fun x hx => by
      rcases List.mem_append.1 hx with hx | hx
      · exact flowB_byte (code_okF hok h) x hx
      · exact hr x hx
    exact (getFl_more (code_okF hok h) hr).1 (codeG_0 hb h2).1
  · rintro rfl
    rw [List.append_nil, code_get hok h]
theorem code_bad {b : List Nat} (h : (getFl b).2 ≠ 0) : (codeG b).2 ≠ 0 := by
  rw [codeG_flow h]
  show (((getFl b).2 : Nat) : Int) ≠ 0
  omega
theorem codeB_byte {g : Gr} (hok : OkG g) : ∀ x ∈ codeB g, x < 256 := by
  rw [codeB]
  split
  · rename_i h
    exact flowB_byte (code_okF hok h)
  · simp
theorem codeB_len {g : Gr} (hok : OkG g) : (codeB g).length ≤ 11130 := by
  rw [codeB]
  split
  · rename_i h
    exact flowB_len (code_okF hok h)
  · simp
theorem parts_count {g : Gr} (hm : mayG g = true) : (codeF g).2.length = 2 + (reachG g).length := by
  show (partsG (canonG g)).length = _
  rw [partsG, List.length_cons, List.length_cons, List.length_map, canon_len hm, ordG_len hm]
  omega
end Go.Proofs.YtclbjbhpncpmbaaGreatDoor

/- What the program makes of bytes (roots wrap, bytes may be left behind an object, and what is made is put anew and compared) is what the document says; on plain data. No condition. -/
namespace Go.Proofs.YtclbjbhpncpmbaaGreatDoor
open Go.RowKit

/-- An Id out of a number, as an int wraps. -/
def rootQ (n : Nat) : Int := wrap64 (wrap64 (n : Int) - 1)
def rootsQ (b : List Nat) : Option (List Int) := (vallL b).map fun l => l.map rootQ
def objQ (s : Sch) (id : Nat) (b : List Nat) : Option Ob :=
  if (getL b).2 = 0 ∨ s.length ≤ (getL b).1 then none
  else (valsL (fldsG s ((getL b).1 : Int)) (b.drop (getL b).2)).map fun p => ((id : Int), ((getL b).1 : Int), p.1)
def objsQ (s : Sch) : Nat → List (List Nat) → Option (List Ob)
  | _, [] => some []
  | i, b :: bs => (objQ s i b).bind fun o => (objsQ s (i + 1) bs).map (o :: ·)
def graphQ : List (List Nat) → Option Gr
  | a :: b :: os => (readS a).bind fun s => (rootsQ b).bind fun r => (objsQ s 0 os).map fun l => (s, l, r)
  | _ => none
def codeQ (b : List Nat) : Gr × Int :=
  if (getFl b).2 ≠ 0 then (([], [], []), ((getFl b).2 : Int))
  else match graphQ (getFl b).1.2 with
    | none => (([], [], []), 2)
    | some x => if codeE x = 0 ∧ codeB x = b then (x, 0) else (([], [], []), 2)

theorem rootQ_small {n : Nat} (h : n ≤ 1073741825) : rootQ n = (n : Int) - 1 := by
  rw [rootQ]
  unfold wrap64
  omega
theorem rootsL_Q {b : List Nat} {r : List Int} (h : rootsL b = some r) : rootsQ b = some r := by
  rw [rootsL] at h
  rw [rootsQ]
  cases hv : vallL b with
  | none => rw [hv] at h; cases h
  | some l =>
    rw [hv] at h
    simp only [Option.bind_some] at h
    split at h
    · rename_i hl
      injection h with h
      rw [Option.map_some, ← h]
      exact congrArg some (List.map_congr_left fun n hn => rootQ_small (hl n hn))
    · cases h
theorem objL_Q {s : Sch} {i : Nat} {b : List Nat} {o : Ob} (h : objL s i b = some o) : objQ s i b = some o := by
  rw [objL] at h
  rw [objQ]
  split at h
  · cases h
  · rename_i hn
    rw [if_neg hn]
    cases hv : valsL (fldsG s ((getL b).1 : Int)) (b.drop (getL b).2) with
    | none => rw [hv] at h; cases h
    | some p =>
      rw [hv] at h
      simp only [Option.bind_some] at h
      split at h
      · exact h
      · cases h
theorem objsL_Q {s : Sch} : ∀ {i : Nat} {bs : List (List Nat)} {l : List Ob}, objsL s i bs = some l → objsQ s i bs = some l
  | i, [], l, h => h
  | i, b :: bs, l, h => by
    rw [objsL] at h
    rw [objsQ]
    cases ho : objL s i b with
    | none => rw [ho] at h; cases h
    | some o =>
      rw [ho] at h
      rw [objL_Q ho]
      simp only [Option.bind_some] at h ⊢
      cases hr : objsL s (i + 1) bs with
      | none => rw [hr] at h; cases h
      | some r =>
        rw [hr] at h
        rw [objsL_Q hr]
        exact h
theorem graphL_Q {l : List (List Nat)} {x : Gr} (h : graphL l = some x) : graphQ l = some x := by
  match l, h with
  | a :: b :: os, h =>
    rw [graphL] at h
    rw [graphQ]
    cases h1 : readS a with
    | none => rw [h1] at h; cases h
    | some s =>
      rw [h1] at h
      simp only [Option.bind_some] at h ⊢
      cases h2 : rootsL b with
      | none => rw [h2] at h; cases h
      | some r =>
        rw [h2] at h
        rw [rootsL_Q h2]
        simp only [Option.bind_some] at h ⊢
        cases h3 : objsL s 0 os with
        | none => rw [h3] at h; cases h
        | some q =>
          rw [h3] at h
          rw [objsL_Q h3]
          exact h
  | [], h => cases h
  | [_], h => cases h
theorem objQ_ok {s : Sch} {i : Nat} {b : List Nat} {o : Ob} (hb : ∀ x ∈ b, x < 256) (h : objQ s i b = some o) : ∀ v ∈ o.2.2, OkV v := by
  rw [objQ] at h
  split at h
  · cases h
  · cases hv : valsL (fldsG s ((getL b).1 : Int)) (b.drop (getL b).2) with
    | none => rw [hv] at h; cases h
    | some p =>
      rw [hv] at h
      injection h with h
      subst h
      exact (valsL_ok (fun x hx => hb x (List.mem_of_mem_drop hx)) hv).1
theorem objsQ_ok {s : Sch} : ∀ {i : Nat} {bs : List (List Nat)} {l : List Ob}, (∀ b ∈ bs, ∀ x ∈ b, x < 256) → objsQ s i bs = some l → ∀ o ∈ l, ∀ v ∈ o.2.2, OkV v
  | i, [], l, _, h => by
    rw [objsQ] at h
    injection h with h
    subst h
    simp
  | i, b :: bs, l, hb, h => by
    rw [objsQ] at h
    cases ho : objQ s i b with
    | none => rw [ho] at h; cases h
    | some o =>
      rw [ho] at h
      simp only [Option.bind_some] at h
      cases hr : objsQ s (i + 1) bs with
      | none => rw [hr] at h; cases h
      | some r =>
        rw [hr] at h
        injection h with h
        subst h
        intro p hp
        rcases List.mem_cons.1 hp with rfl | hp
        · exact objQ_ok (hb b (by simp)) ho
        · exact objsQ_ok (fun b hb' => hb b (by simp [hb'])) hr p hp
theorem graphQ_ok {l : List (List Nat)} {x : Gr} (hb : ∀ b ∈ l, ∀ y ∈ b, y < 256) (h : graphQ l = some x) : OkG x := by
  match l, h with
  | a :: b :: os, h =>
    rw [graphQ] at h
    cases h1 : readS a with
    | none => rw [h1] at h; cases h
    | some s =>
      rw [h1] at h
      simp only [Option.bind_some] at h
      cases h2 : rootsQ b with
      | none => rw [h2] at h; cases h
      | some r =>
        rw [h2] at h
        simp only [Option.bind_some] at h
        cases h3 : objsQ s 0 os with
        | none => rw [h3] at h; cases h
        | some q =>
          rw [h3] at h
          injection h with h
          subst h
          exact objsQ_ok (fun b hb' => hb b (by simp [hb'])) h3
  | [], h => cases h
  | [_], h => cases h
theorem codeQ_eq {b : List Nat} (hb : ∀ x ∈ b, x < 256) : codeQ b = codeG b := by
  by_cases hf : (getFl b).2 = 0
  · have hok := (getFl_back hb hf).1
    have hbad : ¬ ((getFl b).2 ≠ 0) := by simpa using hf
    cases hq : graphQ (getFl b).1.2 with
    | none =>
      have hl : graphL (getFl b).1.2 = none := by
        cases hl : graphL (getFl b).1.2 with
        | none => rfl
        | some y => rw [graphL_Q hl] at hq; cases hq
      rw [codeQ, codeG, if_neg hbad, if_neg hbad, hq, hl]
    | some x =>
      have hx := graphQ_ok hok.byte hq
      rw [codeQ, if_neg hbad, hq]
      simp only
      by_cases hc : codeE x = 0 ∧ codeB x = b
      · have hm := codeE_may hc.1
        have e : codeB x = flowB (codeF x) := if_pos hc.1
        have hg := getFl_put (code_okF hx hc.1)
        rw [← e, hc.2] at hg
        rw [hg] at hq
        have h1 : graphQ (partsG (canonG x)) = some x := hq
        rw [graphL_Q (code_parts hm hx)] at h1
        injection h1 with h1
        have h2 := code_get hx hc.1
        rw [hc.2, h1] at h2
        rw [if_pos hc, h2]
      · rw [if_neg hc, codeG, if_neg hbad]
        cases hl : graphL (getFl b).1.2 with
        | none => rfl
        | some y =>
          rw [graphL_Q hl] at hq
          injection hq with hq
          subst hq
          simp only
          rw [if_neg hc]
  · rw [codeQ, codeG, if_pos hf, if_pos hf]
end Go.Proofs.YtclbjbhpncpmbaaGreatDoor
