/- The texts NaPlain, NaSigns, NaNames, ScPlain in one; what each proves, and its conditions, stands before it. -/
import Derived.Laws.RangeAny
import Derived.WalkKit
/- Texts as lists of bytes, their signs, and names among them: plain facts, and that the model's own reading of a sign is this one. No condition. -/
namespace Go.Proofs.Yteafbdebmhpffaa

/-- A text's bytes, as numbers. -/
def byt (s : ByteArray) : List Nat := s.data.toList.map UInt8.toNat
@[simp] theorem byt_length (s : ByteArray) : (byt s).length = s.size := by
  rw [byt, List.length_map, Array.length_toList]; rfl
theorem byt_lt (s : ByteArray) : ∀ x ∈ byt s, x < 256 := by
  intro x hx
  obtain ⟨u, _, rfl⟩ := List.mem_map.1 hx
  exact u.toNat_lt
theorem byt_getD (s : ByteArray) (i : Nat) : (byt s).getD i 0 = (s.get! i).toNat := by
  have h : s.get! i = s.data.toList.getD i 0 := by
    show s.data[i]! = _
    rw [List.getD_eq_getElem?_getD, Array.getElem?_toList, getElem!_def]
    cases s.data[i]? <;> rfl
  rw [h, byt, List.getD_eq_getElem?_getD, List.getD_eq_getElem?_getD, List.getElem?_map]
  cases s.data.toList[i]? <;> rfl
theorem byt_inj {s t : ByteArray} (h : byt s = byt t) : s = t := by
  obtain ⟨⟨s⟩⟩ := s
  obtain ⟨⟨t⟩⟩ := t
  have : s = t := by
    simp only [byt] at h
    exact List.map_inj_right (fun a b e => UInt8.toNat_inj.1 e) |>.1 h
  rw [this]

/-- Is x a byte that goes on with a sign? -/
def mid (x : Nat) : Bool := decide (128 ≤ x ∧ x < 192)
def v3 (a b c : Nat) : Nat := (a - 224) * 4096 + (b - 128) * 64 + (c - 128)
def v4 (a b c d : Nat) : Nat := (a - 240) * 262144 + (b - 128) * 4096 + (c - 128) * 64 + (d - 128)
def sigOf (a b c d : Nat) : Nat × Nat :=
  if a < 128 then (a, 1)
  else if 194 ≤ a ∧ a < 224 ∧ mid b then ((a - 192) * 64 + (b - 128), 2)
  else if 224 ≤ a ∧ a < 240 ∧ mid b ∧ mid c ∧ 2048 ≤ v3 a b c ∧ ¬ (55296 ≤ v3 a b c ∧ v3 a b c < 57344) then (v3 a b c, 3)
  else if 240 ≤ a ∧ a < 248 ∧ mid b ∧ mid c ∧ mid d ∧ 65536 ≤ v4 a b c d ∧ v4 a b c d < 1114112 then (v4 a b c d, 4)
  else (65533, 1)
/-- The sign that bytes begin by, and how many bytes it has. -/
def sig (l : List Nat) : Nat × Nat := sigOf (l.getD 0 0) (l.getD 1 0) (l.getD 2 0) (l.getD 3 0)

theorem mid_of {x : Nat} (h : mid x = true) : 128 ≤ x ∧ x < 192 := of_decide_eq_true h
section
variable {a b c d : Nat}
theorem sig_1 (h : a < 128) : sigOf a b c d = (a, 1) := by rw [sigOf, if_pos h]
theorem sig_2 (h : 194 ≤ a) (h' : a < 224) (hb : mid b = true) : sigOf a b c d = ((a - 192) * 64 + (b - 128), 2) := by
  rw [sigOf, if_neg (by omega), if_pos ⟨h, h', hb⟩]
theorem sig_3 (h : 224 ≤ a) (h' : a < 240) (hb : mid b = true) (hc : mid c = true) (hv : 2048 ≤ v3 a b c) (hs : ¬ (55296 ≤ v3 a b c ∧ v3 a b c < 57344)) : sigOf a b c d = (v3 a b c, 3) := by
  rw [sigOf, if_neg (by omega), if_neg (by omega), if_pos ⟨h, h', hb, hc, hv, hs⟩]
theorem sig_4 (h : 240 ≤ a) (h' : a < 248) (hb : mid b = true) (hc : mid c = true) (hd : mid d = true) (hv : 65536 ≤ v4 a b c d) (hs : v4 a b c d < 1114112) : sigOf a b c d = (v4 a b c d, 4) := by
  rw [sigOf, if_neg (by omega), if_neg (by omega), if_neg (by omega), if_pos ⟨h, h', hb, hc, hd, hv, hs⟩]
theorem sig_x (h : ¬ a < 128) (h2 : ¬ (194 ≤ a ∧ a < 224 ∧ mid b = true)) (h3 : ¬ (224 ≤ a ∧ a < 240 ∧ mid b = true ∧ mid c = true ∧ 2048 ≤ v3 a b c ∧ ¬ (55296 ≤ v3 a b c ∧ v3 a b c < 57344)))
    (h4 : ¬ (240 ≤ a ∧ a < 248 ∧ mid b = true ∧ mid c = true ∧ mid d = true ∧ 65536 ≤ v4 a b c d ∧ v4 a b c d < 1114112)) : sigOf a b c d = (65533, 1) := by
  rw [sigOf, if_neg h, if_neg h2, if_neg h3, if_neg h4]
end
theorem valid_nat (v : Nat) : Utf8.valid (v : Int) = true ↔ v < 55296 ∨ (57344 ≤ v ∧ v < 1114112) := by
  rw [Utf8.valid, Bool.or_eq_true, Bool.and_eq_true, Bool.and_eq_true, decide_eq_true_iff, decide_eq_true_iff, decide_eq_true_iff, decide_eq_true_iff]
  omega
theorem dec_sig (s : ByteArray) (i : Nat) : Utf8.decode s i = sig ((byt s).drop i) := by
  have hg : ∀ k, (s.get! (i + k)).toNat = ((byt s).drop i).getD k 0 := fun k => by
    rw [← byt_getD, List.getD_eq_getElem?_getD, List.getD_eq_getElem?_getD, List.getElem?_drop]
  have hc : ∀ k, (decide (i + k < s.size) && ((byt s).drop i).getD k 0 / 64 == 2) = mid (((byt s).drop i).getD k 0) := fun k => by
    by_cases h : i + k < s.size
    · rw [decide_eq_true h, Bool.true_and, mid]
      generalize ((byt s).drop i).getD k 0 = x
      by_cases hm : 128 ≤ x ∧ x < 192
      · rw [decide_eq_true hm]; exact beq_iff_eq.2 (by omega)
      · rw [decide_eq_false hm]; exact beq_eq_false_iff_ne.2 (by omega)
    · have h0 : ((byt s).drop i).getD k 0 = 0 := by
        rw [List.getD_eq_getElem?_getD, List.getElem?_eq_none (by rw [List.length_drop, byt_length]; omega)]; rfl
      rw [h0, decide_eq_false h]; rfl
  have hl : ∀ k, ((byt s).drop i).getD k 0 < 256 := fun k => by rw [← hg]; exact UInt8.toNat_lt _
  have l0 := hl 0; have l1 := hl 1; have l2 := hl 2; have l3 := hl 3
  simp only [Utf8.decode, hg, hc, sig]
  generalize ((byt s).drop i).getD 0 0 = a at *
  generalize ((byt s).drop i).getD 1 0 = b at *
  generalize ((byt s).drop i).getD 2 0 = c at *
  generalize ((byt s).drop i).getD 3 0 = d at *
  clear hg hc hl
  have hre : Utf8.runeError = 65533 := rfl
  rw [hre]
  by_cases ha : a < 128
  · rw [if_pos ha, sig_1 ha]
  rw [if_neg ha]
  by_cases h2 : (a / 32 == 6 && mid b) = true
  · rw [if_pos h2]
    rw [Bool.and_eq_true, beq_iff_eq] at h2
    obtain ⟨h2, hb⟩ := h2
    have hb' := mid_of hb
    by_cases h4 : 194 ≤ a
    · have e : a % 32 * 64 + b % 64 = (a - 192) * 64 + (b - 128) := by omega
      rw [if_pos (by omega), sig_2 h4 (by omega) hb, e]
    · rw [if_neg (by omega), sig_x ha (by omega) (by omega) (by omega)]
  rw [if_neg h2]
  have g2 : ¬ (194 ≤ a ∧ a < 224 ∧ mid b = true) := fun h => h2 (by rw [Bool.and_eq_true, beq_iff_eq]; exact ⟨by omega, h.2.2⟩)
  by_cases h3 : (a / 16 == 14 && mid b && mid c) = true
  · rw [if_pos h3]
    rw [Bool.and_eq_true, Bool.and_eq_true, beq_iff_eq] at h3
    obtain ⟨⟨h3, hb⟩, hcc⟩ := h3
    have hb' := mid_of hb
    have hc' := mid_of hcc
    have hv : a % 16 * 4096 + b % 64 * 64 + c % 64 = v3 a b c := by unfold v3; omega
    have hlt : v3 a b c < 65536 := by unfold v3; omega
    rw [hv]
    by_cases hq : 2048 ≤ v3 a b c ∧ ¬ (55296 ≤ v3 a b c ∧ v3 a b c < 57344)
    · rw [if_pos (by rw [Bool.and_eq_true, decide_eq_true_iff, valid_nat]; omega), sig_3 (by omega) (by omega) hb hcc hq.1 hq.2]
    · rw [if_neg (by rw [Bool.and_eq_true, decide_eq_true_iff, valid_nat]; omega), sig_x ha g2 (fun h => hq h.2.2.2.2) (by omega)]
  rw [if_neg h3]
  have g3 : ¬ (224 ≤ a ∧ a < 240 ∧ mid b = true ∧ mid c = true ∧ 2048 ≤ v3 a b c ∧ ¬ (55296 ≤ v3 a b c ∧ v3 a b c < 57344)) := fun h => h3 (by rw [Bool.and_eq_true, Bool.and_eq_true, beq_iff_eq]; exact ⟨⟨by omega, h.2.2.1⟩, h.2.2.2.1⟩)
  by_cases h4 : (a / 8 == 30 && mid b && mid c && mid d) = true
  · rw [if_pos h4]
    rw [Bool.and_eq_true, Bool.and_eq_true, Bool.and_eq_true, beq_iff_eq] at h4
    obtain ⟨⟨⟨h4, hb⟩, hcc⟩, hd⟩ := h4
    have hb' := mid_of hb
    have hc' := mid_of hcc
    have hd' := mid_of hd
    have hv : a % 8 * 262144 + b % 64 * 4096 + c % 64 * 64 + d % 64 = v4 a b c d := by unfold v4; omega
    rw [hv]
    by_cases hq : 65536 ≤ v4 a b c d ∧ v4 a b c d < 1114112
    · rw [if_pos (by rw [Bool.and_eq_true, decide_eq_true_iff, valid_nat]; omega), sig_4 (by omega) (by omega) hb hcc hd hq.1 hq.2]
    · rw [if_neg (by rw [Bool.and_eq_true, decide_eq_true_iff, valid_nat]; omega), sig_x ha g2 g3 (fun h => hq h.2.2.2.2.2)]
  rw [if_neg h4, sig_x ha g2 g3 (fun h => h4 (by rw [Bool.and_eq_true, Bool.and_eq_true, Bool.and_eq_true, beq_iff_eq]; exact ⟨⟨⟨by omega, h.2.2.1⟩, h.2.2.2.1⟩, h.2.2.2.2.1⟩))]
end Go.Proofs.Yteafbdebmhpffaa

/- The signs of bytes, one after the other; names among them; what is ahead. Plain facts, no condition. -/
namespace Go.Proofs.Yteafbdebmhpffaa

theorem sigOf_cases (a b c d : Nat) : (a < 128 ∧ sigOf a b c d = (a, 1)) ∨ (194 ≤ a ∧ a < 224 ∧ mid b = true ∧ sigOf a b c d = ((a - 192) * 64 + (b - 128), 2)) ∨
    (224 ≤ a ∧ mid b = true ∧ mid c = true ∧ 2048 ≤ v3 a b c ∧ sigOf a b c d = (v3 a b c, 3)) ∨ (240 ≤ a ∧ mid b = true ∧ mid c = true ∧ mid d = true ∧ 65536 ≤ v4 a b c d ∧ sigOf a b c d = (v4 a b c d, 4)) ∨ (128 ≤ a ∧ sigOf a b c d = (65533, 1)) := by
  by_cases ha : a < 128
  · exact .inl ⟨ha, sig_1 ha⟩
  by_cases h2 : 194 ≤ a ∧ a < 224 ∧ mid b = true
  · exact .inr (.inl ⟨h2.1, h2.2.1, h2.2.2, sig_2 h2.1 h2.2.1 h2.2.2⟩)
  by_cases h3 : 224 ≤ a ∧ a < 240 ∧ mid b = true ∧ mid c = true ∧ 2048 ≤ v3 a b c ∧ ¬ (55296 ≤ v3 a b c ∧ v3 a b c < 57344)
  · exact .inr (.inr (.inl ⟨h3.1, h3.2.2.1, h3.2.2.2.1, h3.2.2.2.2.1, sig_3 h3.1 h3.2.1 h3.2.2.1 h3.2.2.2.1 h3.2.2.2.2.1 h3.2.2.2.2.2⟩))
  by_cases h4 : 240 ≤ a ∧ a < 248 ∧ mid b = true ∧ mid c = true ∧ mid d = true ∧ 65536 ≤ v4 a b c d ∧ v4 a b c d < 1114112
  · exact .inr (.inr (.inr (.inl ⟨h4.1, h4.2.2.1, h4.2.2.2.1, h4.2.2.2.2.1, h4.2.2.2.2.2.1, sig_4 h4.1 h4.2.1 h4.2.2.1 h4.2.2.2.1 h4.2.2.2.2.1 h4.2.2.2.2.2.1 h4.2.2.2.2.2.2⟩)))
  · exact .inr (.inr (.inr (.inr ⟨by omega, sig_x ha h2 h3 h4⟩)))

theorem mid_in {l : List Nat} {k : Nat} (h : mid (l.getD k 0) = true) : k < l.length := by
  rcases Nat.lt_or_ge k l.length with h1 | h1
  · exact h1
  · rw [List.getD_eq_getElem?_getD, List.getElem?_eq_none h1] at h
    cases h
/-- A sign has one byte at least, no more than there are, and what is not its first one goes on with it. -/
theorem sig_wide (l : List Nat) : 1 ≤ (sig l).2 ∧ (l ≠ [] → (sig l).2 ≤ l.length) ∧ ∀ k, 1 ≤ k → k < (sig l).2 → mid (l.getD k 0) = true := by
  have hne : l ≠ [] → 1 ≤ l.length := fun h => List.length_pos_iff.2 h
  rw [sig]
  rcases sigOf_cases (l.getD 0 0) (l.getD 1 0) (l.getD 2 0) (l.getD 3 0) with ⟨_, e⟩ | ⟨_, _, h1, e⟩ | ⟨_, h1, h2, _, e⟩ | ⟨_, h1, h2, h3, _, e⟩ | ⟨_, e⟩
  all_goals rw [e]
  · exact ⟨Nat.le_refl _, hne, fun k hk hk' => absurd hk' (by simp only; omega)⟩
  · have := mid_in h1
    refine ⟨by simp, fun _ => by simp only; omega, fun k hk hk' => ?_⟩
    simp only at hk'
    obtain rfl : k = 1 := by omega
    exact h1
  · have := mid_in h2
    refine ⟨by simp, fun _ => by simp only; omega, fun k hk hk' => ?_⟩
    simp only at hk'
    obtain rfl | rfl : k = 1 ∨ k = 2 := by omega
    · exact h1
    · exact h2
  · have := mid_in h3
    refine ⟨by simp, fun _ => by simp only; omega, fun k hk hk' => ?_⟩
    simp only at hk'
    obtain rfl | rfl | rfl : k = 1 ∨ k = 2 ∨ k = 3 := by omega
    · exact h1
    · exact h2
    · exact h3
  · exact ⟨Nat.le_refl _, hne, fun k hk hk' => absurd hk' (by simp only; omega)⟩

def sigs : Nat → List Nat → List Nat
  | 0, _ => []
  | n + 1, l => if l = [] then [] else (sig l).1 :: sigs n (l.drop (sig l).2)
/-- The signs of bytes. -/
def sgn (l : List Nat) : List Nat := sigs l.length l
theorem sigs_enough : ∀ (n m : Nat) (l : List Nat), l.length ≤ n → l.length ≤ m → sigs n l = sigs m l := by
  intro n
  induction n with
  | zero =>
    intro m l h1 _
    obtain rfl : l = [] := List.eq_nil_of_length_eq_zero (by omega)
    cases m <;> simp [sigs]
  | succ n ih =>
    intro m l h1 h2
    by_cases hl : l = []
    · subst hl
      cases m <;> simp [sigs]
    · cases m with
      | zero => exact absurd (List.eq_nil_of_length_eq_zero (by omega)) hl
      | succ m =>
        have hw := (sig_wide l).1
        have hlen : (l.drop (sig l).2).length ≤ l.length - 1 := by rw [List.length_drop]; omega
        rw [sigs, sigs, if_neg hl, if_neg hl, ih m _ (by omega) (by omega)]
theorem sgn_nil : sgn [] = [] := rfl
theorem sgn_cons {l : List Nat} (h : l ≠ []) : sgn l = (sig l).1 :: sgn (l.drop (sig l).2) := by
  have hp : 0 < l.length := List.length_pos_iff.2 h
  have hw := (sig_wide l).1
  obtain ⟨n, hn⟩ : ∃ n, l.length = n + 1 := ⟨l.length - 1, by omega⟩
  rw [sgn, hn, sigs, if_neg h, sgn]
  rw [sigs_enough n _ _ (by rw [List.length_drop]; omega) (Nat.le_refl _)]
theorem sgn_length_le (l : List Nat) : (sgn l).length ≤ l.length := by
  suffices h : ∀ (n : Nat) (l : List Nat), l.length ≤ n → (sgn l).length ≤ l.length from h _ l (Nat.le_refl _)
  intro n
  induction n with
  | zero =>
    intro l hl
    obtain rfl : l = [] := List.eq_nil_of_length_eq_zero (by omega)
    simp [sgn_nil]
  | succ n ih =>
    intro l hl
    by_cases h : l = []
    · subst h; simp [sgn_nil]
    · have hp : 0 < l.length := List.length_pos_iff.2 h
      have hw := (sig_wide l).1
      have := ih (l.drop (sig l).2) (by rw [List.length_drop]; omega)
      rw [sgn_cons h, List.length_cons]
      rw [List.length_drop] at this
      omega

/-- The bytes of a sign below 2048. -/
def encS (c : Nat) : List Nat := if c < 128 then [c] else [192 + c / 64, 128 + c % 64]
def encL : List Nat → List Nat
  | [] => []
  | c :: cs => encS c ++ encL cs
theorem encL_append (a b : List Nat) : encL (a ++ b) = encL a ++ encL b := by
  induction a with
  | nil => rfl
  | cons c a ih => rw [List.cons_append, encL, encL, ih, List.append_assoc]
theorem encS_ne (c : Nat) (t : List Nat) : encS c ++ t ≠ [] := by unfold encS; split <;> simp
theorem sig_enc {c : Nat} (h : c < 2048) (t : List Nat) : sig (encS c ++ t) = (c, (encS c).length) := by
  rw [sig, encS]
  by_cases h1 : c < 128
  · rw [if_pos h1]
    exact sig_1 h1
  · rw [if_neg h1]
    have e : (192 + c / 64 - 192) * 64 + (128 + c % 64 - 128) = c := by omega
    have hm : mid (128 + c % 64) = true := decide_eq_true (by omega)
    have := sig_2 (a := 192 + c / 64) (b := 128 + c % 64) (c := ([192 + c / 64, 128 + c % 64] ++ t).getD 2 0) (d := ([192 + c / 64, 128 + c % 64] ++ t).getD 3 0) (by omega) (by omega) hm
    rw [e] at this
    exact this
theorem sgn_enc : ∀ (cs t : List Nat), (∀ c ∈ cs, c < 2048) → sgn (encL cs ++ t) = cs ++ sgn t
  | [], t, _ => rfl
  | c :: cs, t, h => by
    have hc := h c (by simp)
    rw [encL, List.append_assoc, sgn_cons (encS_ne _ _), sig_enc hc]
    simp only [List.drop_left]
    rw [sgn_enc cs t (fun x hx => h x (by simp [hx]))]
    rfl
theorem two_more {l : List Nat} (h : 2 ≤ l.length) : ∃ a b t, l = a :: b :: t := by
  rcases l with _ | ⟨a, _ | ⟨b, t⟩⟩
  · simp at h
  · simp at h
  · exact ⟨a, b, t, rfl⟩
theorem sig_back {l : List Nat} (hl : l ≠ []) (h : (sig l).1 < 2048) : l = encS (sig l).1 ++ l.drop (sig l).2 := by
  have hw := (sig_wide l).2.1 hl
  rw [sig] at h hw ⊢
  rcases sigOf_cases (l.getD 0 0) (l.getD 1 0) (l.getD 2 0) (l.getD 3 0) with ⟨h0, e⟩ | ⟨h0, h0', h1, e⟩ | ⟨_, _, _, h1, e⟩ | ⟨_, _, _, _, h1, e⟩ | ⟨_, e⟩
  all_goals rw [e] at h hw ⊢
  all_goals simp only at h hw ⊢
  · cases l with
    | nil => exact absurd rfl hl
    | cons a t =>
      simp only [List.getD_cons_zero] at h0 ⊢
      rw [encS, if_pos h0]; rfl
  · clear e h
    obtain ⟨a, b, t, rfl⟩ := two_more hw
    simp only [List.getD_cons_zero, List.getD_cons_succ] at h0 h0' h1 ⊢
    have hb := mid_of h1
    have e1 : 192 + ((a - 192) * 64 + (b - 128)) / 64 = a := by omega
    have e2 : 128 + ((a - 192) * 64 + (b - 128)) % 64 = b := by omega
    rw [encS, if_neg (by omega), e1, e2]; rfl
  · omega
  · omega
  · omega
theorem enc_sgn (l : List Nat) (h : ∀ c ∈ sgn l, c < 2048) : encL (sgn l) = l := by
  suffices H : ∀ (n : Nat) (l : List Nat), l.length ≤ n → (∀ c ∈ sgn l, c < 2048) → encL (sgn l) = l from H _ l (Nat.le_refl _) h
  intro n
  induction n with
  | zero =>
    intro l hl _
    obtain rfl : l = [] := List.eq_nil_of_length_eq_zero (by omega)
    rfl
  | succ n ih =>
    intro l hl hc
    by_cases h0 : l = []
    · subst h0; rfl
    · have hw := (sig_wide l).1
      have hp : 0 < l.length := List.length_pos_iff.2 h0
      rw [sgn_cons h0] at hc ⊢
      have hb := sig_back h0 (hc _ (by simp))
      rw [encL, ih _ (by rw [List.length_drop]; omega) (fun c h => hc c (by simp [h]))]
      exact hb.symm
/-- A byte below 128 is a sign wherever it stands. -/
theorem low_mem {l : List Nat} {c : Nat} (hm : c ∈ l) (hc : c < 128) : c ∈ sgn l := by
  suffices H : ∀ (n : Nat) (l : List Nat), l.length ≤ n → c ∈ l → c ∈ sgn l from H _ l (Nat.le_refl _) hm
  intro n
  induction n with
  | zero =>
    intro l hl h
    obtain rfl : l = [] := List.eq_nil_of_length_eq_zero (by omega)
    simp at h
  | succ n ih =>
    intro l hl h
    have h0 : l ≠ [] := List.ne_nil_of_mem h
    have hp : 0 < l.length := List.length_pos_iff.2 h0
    obtain ⟨hw1, hw2, hw3⟩ := sig_wide l
    rw [sgn_cons h0]
    obtain ⟨k, hk, rfl⟩ := List.getElem_of_mem h
    have hg : l.getD k 0 = l[k] := by rw [List.getD_eq_getElem?_getD, List.getElem?_eq_getElem hk]; rfl
    by_cases hk2 : (sig l).2 ≤ k
    · refine List.mem_cons_of_mem _ (ih _ (by rw [List.length_drop]; omega) ?_)
      rw [List.mem_iff_getElem?]
      exact ⟨k - (sig l).2, by rw [List.getElem?_drop, show (sig l).2 + (k - (sig l).2) = k by omega, List.getElem?_eq_getElem hk]⟩
    · by_cases hk0 : k = 0
      · subst hk0
        have : sig l = (l[0], 1) := by rw [sig, hg]; exact sig_1 hc
        rw [this]; simp
      · have := mid_of (hw3 k (by omega) (by omega))
        rw [hg] at this
        omega
end Go.Proofs.Yteafbdebmhpffaa

/- Names, on lists of bytes: which may be, joined and split ones, and the order of any texts by their signs. Plain facts, no condition. -/
namespace Go.Proofs.Yteafbdebmhpffaa

theorem byt_append (s t : ByteArray) : byt (s ++ t) = byt s ++ byt t := by
  rw [byt, byt, byt, ← List.map_append]
  rw [ByteArray.data_append, Array.toList_append]
theorem byt_extract (s : ByteArray) (a b : Nat) : byt (s.extract a b) = ((byt s).take b).drop a := by
  rw [byt, byt, ByteArray.data_extract, Array.toList_extract, List.extract_eq_take_drop, ← List.map_take, ← List.map_drop]
  congr 1
  rw [List.drop_take]

def letS (c : Nat) : Bool := decide (97 ≤ c ∧ c ≤ 122) || (decide (223 ≤ c ∧ c ≤ 255) && decide (c ≠ 247))
def digS (c : Nat) : Bool := decide (48 ≤ c ∧ c ≤ 57)
def okS (c : Nat) : Bool := letS c || digS c
theorem letS_lt {c : Nat} (h : letS c = true) : 97 ≤ c ∧ c < 256 := by
  simp [letS] at h; omega
theorem okS_lt {c : Nat} (h : okS c = true) : 48 ≤ c ∧ c < 256 := by
  simp [okS, letS, digS] at h; omega
/-- Do these signs make a name? -/
def nameS : List Nat → Bool
  | [] => false
  | c :: t => letS c && t.all okS && decide (t.length < 8)
def mayN (l : List Nat) : Bool := nameS (sgn l)
def lenN (l : List Nat) : Nat := if mayN l = true then (sgn l).length else 0
theorem nameS_ok {cs : List Nat} (h : nameS cs = true) : cs ≠ [] ∧ cs.length ≤ 8 ∧ ∀ c ∈ cs, okS c = true := by
  cases cs with
  | nil => cases h
  | cons c t =>
    rw [nameS, Bool.and_eq_true, Bool.and_eq_true, decide_eq_true_iff, List.all_eq_true] at h
    refine ⟨by simp, by rw [List.length_cons]; omega, fun x hx => ?_⟩
    rcases List.mem_cons.1 hx with rfl | hx
    · rw [okS, h.1.1]; rfl
    · exact h.1.2 x hx
theorem nameS_append {x y : List Nat} (h : nameS x = true) (hy : ∀ c ∈ y, okS c = true) : nameS (x ++ y) = decide (x.length + y.length ≤ 8) := by
  cases x with
  | nil => cases h
  | cons c t =>
    rw [nameS, Bool.and_eq_true, Bool.and_eq_true, decide_eq_true_iff] at h
    have hy' : y.all okS = true := List.all_eq_true.2 hy
    rw [List.cons_append, nameS, h.1.1, List.all_append, h.1.2, hy', List.length_append, List.length_cons]
    simp only [Bool.true_and, Bool.and_self]
    rw [Bool.eq_iff_iff, decide_eq_true_iff, decide_eq_true_iff]
    omega
theorem nameS_take {x : List Nat} (h : nameS x = true) {j : Nat} (h1 : 1 ≤ j) : nameS (x.take j) = true := by
  cases x with
  | nil => cases h
  | cons c t =>
    obtain ⟨i, rfl⟩ : ∃ i, j = i + 1 := ⟨j - 1, by omega⟩
    rw [nameS, Bool.and_eq_true, Bool.and_eq_true, decide_eq_true_iff, List.all_eq_true] at h
    rw [List.take_succ_cons, nameS, Bool.and_eq_true, Bool.and_eq_true, decide_eq_true_iff, List.all_eq_true]
    refine ⟨⟨h.1.1, fun z hz => h.1.2 z (List.mem_of_mem_take hz)⟩, ?_⟩
    rw [List.length_take]
    omega
section
variable {a b : List Nat}
theorem may_lt (h : mayN a = true) : ∀ c ∈ sgn a, c < 2048 := fun c hc => by
  have := okS_lt ((nameS_ok h).2.2 c hc); omega
theorem may_enc (h : mayN a = true) : encL (sgn a) = a := enc_sgn a (may_lt h)
theorem may_inj (ha : mayN a = true) (hb : mayN b = true) (h : sgn a = sgn b) : a = b := by rw [← may_enc ha, h, may_enc hb]
theorem may_sgn (h : mayN a = true) (b : List Nat) : sgn (a ++ b) = sgn a ++ sgn b := by
  have := sgn_enc (sgn a) b (may_lt h)
  rw [may_enc h] at this
  exact this
theorem may_ne (h : mayN a = true) : a ≠ [] := by rintro rfl; cases h
theorem lenN_pos : lenN a = 0 ↔ mayN a = false := by
  rw [lenN]
  cases h : mayN a with
  | true =>
    rw [if_pos rfl]
    have := List.length_pos_iff.2 (nameS_ok h).1
    constructor
    · intro e; omega
    · intro e; cases e
  | false => simp
theorem lenN_le (h : mayN a = true) : lenN a = (sgn a).length ∧ 1 ≤ lenN a ∧ lenN a ≤ 8 ∧ lenN a ≤ a.length := by
  have h1 := List.length_pos_iff.2 (nameS_ok h).1
  have h2 := (nameS_ok h).2.1
  have h3 := sgn_length_le a
  rw [lenN, if_pos h]
  exact ⟨rfl, h1, h2, h3⟩
/-- Two names side by side. -/
theorem may_cat (ha : mayN a = true) (hb : mayN b = true) : mayN (a ++ b) = decide (lenN a + lenN b ≤ 8) ∧ (mayN (a ++ b) = true → lenN (a ++ b) = lenN a + lenN b) := by
  have e : mayN (a ++ b) = decide (lenN a + lenN b ≤ 8) := by
    rw [mayN, may_sgn ha, nameS_append ha (nameS_ok hb).2.2, (lenN_le ha).1, (lenN_le hb).1]
  refine ⟨e, fun h => ?_⟩
  rw [(lenN_le h).1, may_sgn ha, List.length_append, (lenN_le ha).1, (lenN_le hb).1]
theorem sgn_low {c : Nat} (h : c < 128) (t : List Nat) : sgn (c :: t) = c :: sgn t := by
  have := sgn_enc [c] t (by simp; omega)
  rw [encL, encL, encS, if_pos h] at this
  exact this
/-- A digit behind a name. -/
theorem may_dig (ha : mayN a = true) {d : Nat} (hd : digS d = true) : mayN (a ++ [d]) = decide (lenN a < 8) := by
  have hl : d < 128 := by simp [digS] at hd; omega
  rw [mayN, may_sgn ha, sgn_low hl, sgn_nil, nameS_append ha (by intro c hc; simp at hc; subst hc; rw [okS, hd, Bool.or_true]), (lenN_le ha).1]
  simp only [List.length_cons, List.length_nil]
  rw [Bool.eq_iff_iff, decide_eq_true_iff, decide_eq_true_iff]
  omega
/-- A byte below 128 of a name is a letter or a digit. -/
theorem may_low (ha : mayN a = true) {c : Nat} (hc : c ∈ a) (hl : c < 128) : okS c = true := (nameS_ok ha).2.2 c (low_mem hc hl)
theorem may_nodot (ha : mayN a = true) : 46 ∉ a := fun h => by
  have := okS_lt (may_low ha h (by omega)); omega
end
/-- What signs' bytes begin by, cut where a sign begins, is some signs' bytes. -/
theorem enc_cut : ∀ (cs : List Nat) (k : Nat), k < (encL cs).length → mid ((encL cs).getD k 0) = false → ∃ j, j < cs.length ∧ (encL cs).take k = encL (cs.take j) ∧ (1 ≤ k → 1 ≤ j)
  | [], k, h, _ => by simp [encL] at h
  | c :: cs, k, h, hm => by
    by_cases h0 : k = 0
    · subst h0; exact ⟨0, by simp, by simp [encL], fun h => h⟩
    · rw [encL] at h hm ⊢
      rw [List.length_append] at h
      by_cases hk : (encS c).length ≤ k
      · have hg : (encS c ++ encL cs).getD k 0 = (encL cs).getD (k - (encS c).length) 0 := by
          rw [List.getD_eq_getElem?_getD, List.getD_eq_getElem?_getD, List.getElem?_append_right hk]
        rw [hg] at hm
        obtain ⟨j, hj, e, _⟩ := enc_cut cs (k - (encS c).length) (by omega) hm
        refine ⟨j + 1, by rw [List.length_cons]; omega, ?_, fun _ => by omega⟩
        rw [List.take_succ_cons, encL, ← e, List.take_append, List.take_of_length_le hk]
      · exfalso
        rw [encS] at hk hm
        by_cases hc : c < 128
        · rw [if_pos hc] at hk; simp at hk; omega
        · rw [if_neg hc] at hk hm
          simp only [List.length_cons, List.length_nil] at hk
          obtain rfl : k = 1 := by omega
          have : mid (128 + c % 64) = true := decide_eq_true (by omega)
          simp only [List.cons_append, List.getD_cons_succ, List.getD_cons_zero] at hm
          rw [this] at hm
          cases hm
theorem may_take {a : List Nat} (ha : mayN a = true) {k : Nat} (h1 : 1 ≤ k) (h2 : k < a.length) (hm : mid (a.getD k 0) = false) : mayN (a.take k) = true ∧ lenN (a.take k) < lenN a := by
  have he := may_enc ha
  obtain ⟨j, hj, e, hj1⟩ := enc_cut (sgn a) k (by rw [he]; exact h2) (by rw [he]; exact hm)
  rw [he] at e
  have hs : sgn (a.take k) = (sgn a).take j := by
    rw [e]
    have := sgn_enc ((sgn a).take j) [] (fun c hc => may_lt ha c (List.mem_of_mem_take hc))
    rw [List.append_nil, sgn_nil, List.append_nil] at this
    exact this
  have hn : mayN (a.take k) = true := by rw [mayN, hs]; exact nameS_take ha (hj1 h1)
  refine ⟨hn, ?_⟩
  rw [(lenN_le hn).1, (lenN_le ha).1, hs, List.length_take]
  omega

/-- The order of texts, by their signs. -/
def lexN : List Nat → List Nat → Bool
  | _, [] => false
  | [], _ :: _ => true
  | a :: x, b :: y => if a = b then lexN x y else decide (a < b)
theorem lex_nil (x : List Nat) : lexN x [] = false := by cases x <;> rfl
theorem lex_not_both : ∀ x y : List Nat, lexN x y = true → lexN y x = false
  | _, [], h => by rw [lex_nil] at h; cases h
  | [], _ :: _, _ => lex_nil _
  | a :: x, b :: y, h => by
    rw [lexN] at h ⊢
    by_cases e : a = b
    · subst e
      rw [if_pos rfl] at h ⊢
      exact lex_not_both x y h
    · rw [if_neg e, decide_eq_true_iff] at h
      rw [if_neg (fun h => e h.symm)]
      exact decide_eq_false (by omega)
theorem lex_total : ∀ x y : List Nat, x ≠ y → lexN x y = true ∨ lexN y x = true
  | [], [], h => absurd rfl h
  | [], _ :: _, _ => .inl rfl
  | _ :: _, [], _ => .inr rfl
  | a :: x, b :: y, h => by
    rw [lexN, lexN]
    by_cases e : a = b
    · subst e
      rw [if_pos rfl, if_pos rfl]
      exact lex_total x y fun e => h (by rw [e])
    · rw [if_neg e, if_neg (fun h => e h.symm), decide_eq_true_iff, decide_eq_true_iff]
      omega
theorem lex_self : ∀ x : List Nat, lexN x x = false
  | [] => rfl
  | a :: x => by rw [lexN, if_pos rfl]; exact lex_self x
theorem lex_trans : ∀ x y z : List Nat, lexN x y = true → lexN y z = true → lexN x z = true
  | _, _, [], _, h => by rw [lex_nil] at h; cases h
  | _, [], _ :: _, h, _ => by rw [lex_nil] at h; cases h
  | [], _ :: _, _ :: _, _, _ => rfl
  | a :: x, b :: y, c :: z, h1, h2 => by
    rw [lexN] at h1 h2 ⊢
    by_cases e1 : a = b
    · subst e1
      rw [if_pos rfl] at h1
      by_cases e2 : a = c
      · subst e2
        rw [if_pos rfl] at h2 ⊢
        exact lex_trans x y z h1 h2
      · rw [if_neg e2] at h2 ⊢
        exact h2
    · rw [if_neg e1, decide_eq_true_iff] at h1
      by_cases e2 : b = c
      · subst e2
        rw [if_neg e1]
        exact decide_eq_true h1
      · rw [if_neg e2, decide_eq_true_iff] at h2
        rw [if_neg (by omega)]
        exact decide_eq_true (by omega)
theorem lex_more : ∀ x y : List Nat, y ≠ [] → lexN x (x ++ y) = true
  | [], [], h => absurd rfl h
  | [], _ :: _, _ => rfl
  | a :: x, y, h => by rw [List.cons_append, lexN, if_pos rfl]; exact lex_more x y h

/-- Both names with a point between them, if both may be. -/
def joinN (a b : List Nat) : List Nat := if mayN a = true ∧ mayN b = true then a ++ 46 :: b else []
def dotN (s : List Nat) : Nat := s.findIdx (· == 46)
def canN (s : List Nat) : Bool := decide (dotN s < s.length) && mayN (s.take (dotN s)) && mayN (s.drop (dotN s + 1))
def splitN (s : List Nat) : List Nat × List Nat := if canN s = true then (s.take (dotN s), s.drop (dotN s + 1)) else ([], [])
theorem dot_first {a : List Nat} (h : 46 ∉ a) (b : List Nat) : dotN (a ++ 46 :: b) = a.length := by
  induction a with
  | nil => rfl
  | cons c a ih =>
    have hc : (c == 46) = false := beq_eq_false_iff_ne.2 fun e => h (by simp [e])
    rw [dotN, List.cons_append, List.findIdx_cons, hc]
    simp only [cond_false, List.length_cons]
    rw [← ih fun hm => h (by simp [hm])]
    rfl
theorem dot_there {s : List Nat} (h : dotN s < s.length) : s = s.take (dotN s) ++ 46 :: s.drop (dotN s + 1) := by
  have hg : s[dotN s] = 46 := beq_iff_eq.1 (List.findIdx_getElem (p := (· == 46)) (w := h))
  have h2 := List.drop_eq_getElem_cons h
  rw [hg] at h2
  rw [← h2, List.take_append_drop]
theorem split_join {a b : List Nat} (ha : mayN a = true) (hb : mayN b = true) : canN (a ++ 46 :: b) = true ∧ splitN (a ++ 46 :: b) = (a, b) := by
  have hd := dot_first (may_nodot ha) b
  have hc : canN (a ++ 46 :: b) = true := by
    rw [canN, hd, List.take_left, show (a ++ 46 :: b).drop (a.length + 1) = b from by rw [← List.drop_drop, List.drop_left]; rfl, ha, hb]
    simp
  refine ⟨hc, ?_⟩
  rw [splitN, if_pos hc, hd, List.take_left, show (a ++ 46 :: b).drop (a.length + 1) = b from by rw [← List.drop_drop, List.drop_left]; rfl]
theorem join_split {s : List Nat} (h : canN s = true) : mayN (splitN s).1 = true ∧ mayN (splitN s).2 = true ∧ s = (splitN s).1 ++ 46 :: (splitN s).2 ∧ joinN (splitN s).1 (splitN s).2 = s := by
  have h' := h
  rw [canN, Bool.and_eq_true, Bool.and_eq_true, decide_eq_true_iff] at h'
  have e := dot_there h'.1.1
  rw [splitN, if_pos h]
  refine ⟨h'.1.2, h'.2, e, ?_⟩
  rw [joinN, if_pos ⟨h'.1.2, h'.2⟩]
  exact e.symm
theorem join_nil : canN [] = false := rfl
theorem can_dots {s : List Nat} (h : canN s = true) : s.count 46 = 1 := by
  obtain ⟨h1, h2, e, _⟩ := join_split h
  rw [e, List.count_append, List.count_cons_self, List.count_eq_zero.2 (may_nodot h1), List.count_eq_zero.2 (may_nodot h2)]
theorem encL_len : ∀ cs : List Nat, (encL cs).length ≤ 2 * cs.length
  | [] => by simp [encL]
  | c :: cs => by
    have := encL_len cs
    rw [encL, List.length_append, List.length_cons]
    have : (encS c).length ≤ 2 := by unfold encS; split <;> simp
    omega
theorem may_size {s : ByteArray} (h : mayN (byt s) = true) : s.size ≤ 16 := by
  have h1 := encL_len (sgn (byt s))
  rw [may_enc h, byt_length] at h1
  have := (nameS_ok h).2.1
  omega
theorem byt_toList (s : ByteArray) : byt s = s.toList.map UInt8.toNat := by rw [byt, ByteArray.toList_eq]
theorem str_beq (s t : ByteArray) : (s.toList == t.toList) = decide (byt s = byt t) := by
  by_cases h : byt s = byt t
  · rw [byt_inj h]; simp
  · rw [decide_eq_false h, beq_eq_false_iff_ne]
    intro e
    exact h (by rw [byt_toList, byt_toList, e])
theorem str_empty (t : ByteArray) : t.toList.isEmpty = (byt t).isEmpty := by
  rw [byt_toList]; cases t.toList <;> rfl

end Go.Proofs.Yteafbdebmhpffaa

/- Schemas as plain data: names are bytes. Whether one may be, its text, and that texts tell schemas apart. Over no program. No condition. -/
namespace Go.Proofs.Yteafbdebmhpffaa

/-- A field: its name, its kind, where it leads. -/
abbrev Fld := List Nat × Int × List Nat
abbrev Typ := List Nat × List Fld
abbrev Sch := List Typ

/-- The first place where p holds; -1, if there is none. -/
def idxP {α : Type} (p : α → Bool) : List α → Int
  | [] => -1
  | a :: l => if p a = true then 0 else if idxP p l < 0 then -1 else idxP p l + 1
theorem idxP_low {α : Type} (p : α → Bool) : ∀ l : List α, -1 ≤ idxP p l
  | [] => by simp [idxP]
  | a :: l => by
    have := idxP_low p l
    rw [idxP]
    split
    · omega
    · split <;> omega
theorem idxP_iff {α : Type} (p : α → Bool) : ∀ (l : List α) (i : Nat), idxP p l = (i : Int) ↔ (∃ a, l[i]? = some a ∧ p a = true) ∧ ∀ j b, j < i → l[j]? = some b → p b = false
  | [], i => by simp [idxP]
  | a :: l, i => by
    rw [idxP]
    have hlow := idxP_low p l
    by_cases h : p a = true
    · rw [if_pos h]
      constructor
      · intro e
        obtain rfl : i = 0 := by omega
        exact ⟨⟨a, rfl, h⟩, fun j b hj => by omega⟩
      · rintro ⟨_, h2⟩
        by_cases hi : i = 0
        · subst hi; rfl
        · have := h2 0 a (by omega) rfl
          rw [this] at h; cases h
    · rw [if_neg h]
      have hf : p a = false := by simpa using h
      have ih := idxP_iff p l
      by_cases hn : idxP p l < 0
      · rw [if_pos hn]
        constructor
        · intro e; omega
        · rintro ⟨⟨b, hb, hpb⟩, h2⟩
          cases i with
          | zero => simp at hb; subst hb; rw [hpb] at hf; cases hf
          | succ i =>
            have := (ih i).2 ⟨⟨b, by simpa using hb, hpb⟩, fun j c hj hc => h2 (j + 1) c (by omega) (by simpa using hc)⟩
            omega
      · rw [if_neg hn]
        cases i with
        | zero =>
          constructor
          · intro e; omega
          · rintro ⟨⟨b, hb, hpb⟩, _⟩
            simp at hb; subst hb; rw [hpb] at hf; cases hf
        | succ i =>
          have := ih i
          constructor
          · intro e
            obtain ⟨⟨b, hb, hpb⟩, h2⟩ := this.1 (by omega)
            refine ⟨⟨b, by simpa using hb, hpb⟩, fun j c hj hc => ?_⟩
            cases j with
            | zero => simp at hc; subst hc; exact hf
            | succ j => exact h2 j c (by omega) (by simpa using hc)
          · rintro ⟨⟨b, hb, hpb⟩, h2⟩
            have := this.2 ⟨⟨b, by simpa using hb, hpb⟩, fun j c hj hc => h2 (j + 1) c (by omega) (by simpa using hc)⟩
            omega
theorem idxP_none {α : Type} (p : α → Bool) : ∀ (l : List α), idxP p l = -1 ↔ ∀ a ∈ l, p a = false
  | [] => by simp [idxP]
  | a :: l => by
    have hlow := idxP_low p l
    have ih := idxP_none p l
    rw [idxP]
    by_cases h : p a = true
    · rw [if_pos h]
      constructor
      · intro e; omega
      · intro h2; have := h2 a (by simp); rw [this] at h; cases h
    · rw [if_neg h]
      by_cases hn : idxP p l < 0
      · rw [if_pos hn]
        have := ih.1 (by omega)
        simp only [true_iff, List.mem_cons]
        rintro b (rfl | hb)
        · simpa using h
        · exact this b hb
      · rw [if_neg hn]
        constructor
        · intro e; omega
        · intro h2
          have := ih.2 fun b hb => h2 b (by simp [hb])
          omega
theorem idxP_ge {α : Type} (p : α → Bool) (l : List α) : 0 ≤ idxP p l ↔ ∃ a ∈ l, p a = true := by
  have h := idxP_none p l
  have hl := idxP_low p l
  constructor
  · intro h0
    apply Classical.byContradiction
    intro hn
    have := h.2 fun a ha => by
      cases hp : p a
      · rfl
      · exact absurd ⟨a, ha, hp⟩ hn
    omega
  · rintro ⟨a, ha, hp⟩
    apply Classical.byContradiction
    intro hn
    have := h.1 (by omega) a ha
    rw [this] at hp; cases hp
theorem idxP_lt {α : Type} (p : α → Bool) (l : List α) : idxP p l < (l.length : Int) := by
  by_cases h : 0 ≤ idxP p l
  · obtain ⟨i, hi⟩ := Int.eq_ofNat_of_zero_le h
    obtain ⟨⟨a, ha, _⟩, _⟩ := (idxP_iff p l i).1 hi
    have := (List.getElem?_eq_some_iff.1 ha).1
    omega
  · omega

def findS (s : Sch) (n : List Nat) : Int := idxP (fun t => decide (t.1 = n)) s
def fieldS (f : List Fld) (n : List Nat) : Int := idxP (fun x => decide (x.1 = n)) f
def leadS (s : Sch) (f : Fld) : Bool := if f.2.1 = 5 then decide (0 ≤ findS s f.2.2) else decide (0 ≤ f.2.1) && decide (f.2.1 < 6) && decide (f.2.2 = [])
/-- May the field at place i be? -/
def mayF (s : Sch) (fs : List Fld) (i : Nat) (f : Fld) : Bool := mayN f.1 && decide (fieldS fs f.1 = (i : Int)) && leadS s f
/-- All of a list, by place. -/
def allI {α : Type} (p : Nat → α → Bool) : Nat → List α → Bool
  | _, [] => true
  | i, a :: l => p i a && allI p (i + 1) l
theorem allI_iff {α : Type} (p : Nat → α → Bool) : ∀ (l : List α) (i : Nat), allI p i l = true ↔ ∀ j a, l[j]? = some a → p (i + j) a = true
  | [], i => by simp [allI]
  | a :: l, i => by
    rw [allI, Bool.and_eq_true, allI_iff p l]
    constructor
    · rintro ⟨h1, h2⟩ j b hb
      cases j with
      | zero => simp at hb; subst hb; exact h1
      | succ j => have := h2 j b (by simpa using hb); rwa [show i + (j + 1) = i + 1 + j by omega]
    · intro h
      refine ⟨h 0 a rfl, fun j b hb => ?_⟩
      have := h (j + 1) b (by simpa using hb)
      rwa [show i + 1 + j = i + (j + 1) by omega]
def mayFs (s : Sch) (fs : List Fld) : Bool := decide (fs.length ≤ 5) && allI (mayF s fs) 0 fs
def mayT (s : Sch) (i : Nat) (t : Typ) : Bool := mayN t.1 && decide (findS s t.1 = (i : Int)) && mayFs s t.2
def mayS (s : Sch) : Bool := decide (1 ≤ s.length) && decide (s.length ≤ 4) && allI (mayT s) 0 s

def kindT (k : Int) : List Nat := if k = 0 then [105, 56] else if k = 1 then [105, 49, 54] else if k = 2 then [105, 51, 50] else if k = 3 then [105, 54, 52] else if k = 4 then [116] else [42]
def fText (f : Fld) : List Nat := f.1 ++ 58 :: (kindT f.2.1 ++ f.2.2)
def fsText : List Fld → List Nat
  | [] => []
  | f :: r => match r with
    | [] => fText f
    | _ :: _ => fText f ++ 44 :: fsText r
def tText (t : Typ) : List Nat := t.1 ++ 123 :: (fsText t.2 ++ [125])
def sText : Sch → List Nat
  | [] => []
  | t :: s => tText t ++ sText s
def textS (s : Sch) : List Nat := if mayS s = true then sText s else []
theorem sText_append (a b : Sch) : sText (a ++ b) = sText a ++ sText b := by
  induction a with
  | nil => rfl
  | cons t a ih => rw [List.cons_append, sText, ih, sText, List.append_assoc]
theorem fsText_one (f : Fld) : fsText [f] = fText f := rfl
theorem fsText_two (f g : Fld) (r : List Fld) : fsText (f :: g :: r) = fText f ++ 44 :: fsText (g :: r) := rfl
theorem fsText_snoc : ∀ (l : List Fld) (f : Fld), l ≠ [] → fsText (l ++ [f]) = fsText l ++ 44 :: fText f
  | [], _, h => absurd rfl h
  | [g], f, _ => rfl
  | g :: g' :: r, f, _ => by
    have ih := fsText_snoc (g' :: r) f (by simp)
    rw [List.cons_append] at ih
    rw [List.cons_append, List.cons_append, fsText_two, ih, fsText_two, List.append_assoc]
    rfl

/-- What can be read at all: signs of the text stand in no name, kinds are there, names are not empty. -/
def okB (n : List Nat) : Prop := n ≠ [] ∧ ∀ c ∈ n, c ≠ 44 ∧ c ≠ 58 ∧ c ≠ 123 ∧ c ≠ 125
def goodF (f : Fld) : Prop := okB f.1 ∧ (0 ≤ f.2.1 ∧ f.2.1 < 6) ∧ (f.2.1 = 5 → okB f.2.2) ∧ (f.2.1 ≠ 5 → f.2.2 = [])
def goodT (t : Typ) : Prop := okB t.1 ∧ ∀ f ∈ t.2, goodF f
def goodS (s : Sch) : Prop := ∀ t ∈ s, goodT t
theorem may_okB {n : List Nat} (h : mayN n = true) : okB n := by
  refine ⟨may_ne h, fun c hc => ?_⟩
  by_cases hl : c < 128
  · have := may_low h hc hl
    simp only [okS, letS, digS, Bool.or_eq_true, Bool.and_eq_true, decide_eq_true_eq] at this
    omega
  · omega
theorem mayS_iff (s : Sch) : mayS s = true ↔ (1 ≤ s.length ∧ s.length ≤ 4) ∧ ∀ i t, s[i]? = some t → mayT s i t = true := by
  rw [mayS, Bool.and_eq_true, Bool.and_eq_true, decide_eq_true_iff, decide_eq_true_iff, allI_iff]
  simp only [Nat.zero_add]
theorem mayT_iff (s : Sch) (i : Nat) (t : Typ) : mayT s i t = true ↔ mayN t.1 = true ∧ findS s t.1 = (i : Int) ∧ t.2.length ≤ 5 ∧ ∀ j f, t.2[j]? = some f → mayF s t.2 j f = true := by
  rw [mayT, Bool.and_eq_true, Bool.and_eq_true, decide_eq_true_iff, mayFs, Bool.and_eq_true, decide_eq_true_iff, allI_iff]
  simp only [Nat.zero_add, and_assoc]
theorem mayF_iff (s : Sch) (fs : List Fld) (i : Nat) (f : Fld) : mayF s fs i f = true ↔ mayN f.1 = true ∧ fieldS fs f.1 = (i : Int) ∧ leadS s f = true := by
  rw [mayF, Bool.and_eq_true, Bool.and_eq_true, decide_eq_true_iff, and_assoc]
theorem findS_some {s : Sch} {n : List Nat} (h : 0 ≤ findS s n) : ∃ t ∈ s, t.1 = n := by
  obtain ⟨t, ht, hp⟩ := (idxP_ge _ s).1 h
  exact ⟨t, ht, by simpa using hp⟩
theorem findS_ge {s : Sch} {n : List Nat} {t : Typ} (ht : t ∈ s) (hn : t.1 = n) : 0 ≤ findS s n := (idxP_ge _ s).2 ⟨t, ht, by simpa using hn⟩
theorem mayS_good {s : Sch} (h : mayS s = true) : goodS s := by
  obtain ⟨_, h2⟩ := (mayS_iff s).1 h
  have hn : ∀ t ∈ s, mayN t.1 = true := fun t ht => by
    obtain ⟨i, hi⟩ := List.getElem?_of_mem ht
    exact ((mayT_iff s i t).1 (h2 i t hi)).1
  intro t ht
  obtain ⟨i, hi⟩ := List.getElem?_of_mem ht
  obtain ⟨h3, _, _, h4⟩ := (mayT_iff s i t).1 (h2 i t hi)
  refine ⟨may_okB h3, fun f hf => ?_⟩
  obtain ⟨j, hj⟩ := List.getElem?_of_mem hf
  obtain ⟨h5, _, h6⟩ := (mayF_iff s t.2 j f).1 (h4 j f hj)
  rw [leadS] at h6
  by_cases hk : f.2.1 = 5
  · rw [if_pos hk, decide_eq_true_iff] at h6
    obtain ⟨t', ht', hn'⟩ := findS_some h6
    exact ⟨may_okB h5, by omega, fun _ => by rw [← hn']; exact may_okB (hn t' ht'), fun h => absurd hk h⟩
  · rw [if_neg hk, Bool.and_eq_true, Bool.and_eq_true, decide_eq_true_iff, decide_eq_true_iff, decide_eq_true_iff] at h6
    exact ⟨may_okB h5, h6.1, fun h => absurd h hk, fun _ => h6.2⟩
theorem mayS_ne {s : Sch} (h : mayS s = true) : s ≠ [] := by
  rintro rfl
  cases h

/-- What stands ahead of the first m, and behind it, tell each other. -/
theorem cut_eq {m : Nat} : ∀ {a a' b b' : List Nat}, m ∉ a → m ∉ a' → a ++ m :: b = a' ++ m :: b' → a = a' ∧ b = b'
  | [], [], _, _, _, _, h => by simp at h; exact ⟨rfl, h⟩
  | [], c :: a', _, _, _, h', h => by simp at h; exact absurd h.1 (fun e => h' (by simp [e]))
  | c :: a, [], _, _, h', _, h => by simp at h; exact absurd h.1.symm (fun e => h' (by simp [e]))
  | c :: a, c' :: a', b, b', h1, h2, h => by
    simp at h
    obtain ⟨rfl, h⟩ := h
    obtain ⟨rfl, rfl⟩ := cut_eq (fun hm => h1 (by simp [hm])) (fun hm => h2 (by simp [hm])) h
    exact ⟨rfl, rfl⟩
theorem kindT_inj {k k' : Int} {a a' : List Nat} (hk : 0 ≤ k ∧ k < 6) (hk' : 0 ≤ k' ∧ k' < 6) (h : kindT k ++ a = kindT k' ++ a') : k = k' ∧ a = a' := by
  have h6 : ∀ k : Int, 0 ≤ k ∧ k < 6 → k = 0 ∨ k = 1 ∨ k = 2 ∨ k = 3 ∨ k = 4 ∨ k = 5 := fun k hk => by omega
  rcases h6 k hk with rfl | rfl | rfl | rfl | rfl | rfl <;> rcases h6 k' hk' with rfl | rfl | rfl | rfl | rfl | rfl <;> simp [kindT] at h ⊢ <;> exact h
theorem kindT_no (k : Int) : ∀ c ∈ kindT k, c ≠ 44 ∧ c ≠ 58 ∧ c ≠ 123 ∧ c ≠ 125 := by
  intro c hc
  unfold kindT at hc
  (repeat' split at hc) <;> simp at hc <;> omega
theorem goodF_to {f : Fld} (h : goodF f) : ∀ c ∈ f.2.2, c ≠ 44 ∧ c ≠ 58 ∧ c ≠ 123 ∧ c ≠ 125 := by
  by_cases hk : f.2.1 = 5
  · exact (h.2.2.1 hk).2
  · rw [h.2.2.2 hk]; simp
theorem fText_no {f : Fld} (h : goodF f) : ∀ c ∈ fText f, c ≠ 44 ∧ c ≠ 123 ∧ c ≠ 125 := by
  intro c hc
  rw [fText, List.mem_append, List.mem_cons, List.mem_append] at hc
  rcases hc with hc | hc | hc | hc
  · have := h.1.2 c hc; omega
  · omega
  · have := kindT_no _ c hc; omega
  · have := goodF_to h c hc; omega
theorem fText_ne (f : Fld) : fText f ≠ [] := by rw [fText]; simp
theorem fText_inj {f g : Fld} (hf : goodF f) (hg : goodF g) (h : fText f = fText g) : f = g := by
  obtain ⟨h1, h2⟩ := cut_eq (fun hm => (hf.1.2 _ hm).2.1 rfl) (fun hm => (hg.1.2 _ hm).2.1 rfl) h
  obtain ⟨h3, h4⟩ := kindT_inj hf.2.1 hg.2.1 h2
  exact Prod.ext h1 (Prod.ext h3 h4)
theorem fsText_no : ∀ {l : List Fld}, (∀ f ∈ l, goodF f) → ∀ c ∈ fsText l, c ≠ 123 ∧ c ≠ 125
  | [], _, c, hc => by simp [fsText] at hc
  | [f], h, c, hc => (fText_no (h f (by simp)) c hc).2
  | f :: g :: r, h, c, hc => by
    rw [fsText_two, List.mem_append, List.mem_cons] at hc
    rcases hc with hc | hc | hc
    · exact (fText_no (h f (by simp)) c hc).2
    · omega
    · exact fsText_no (fun x hx => h x (by simp at hx ⊢; right; exact hx)) c hc
theorem fsText_inj : ∀ {l m : List Fld}, (∀ f ∈ l, goodF f) → (∀ f ∈ m, goodF f) → fsText l = fsText m → l = m
  | [], [], _, _, _ => rfl
  | [], [g], _, _, h => absurd h.symm (fText_ne g)
  | [], g :: g' :: r, _, _, h => by simp [fsText] at h
  | [f], [], _, _, h => absurd h (fText_ne f)
  | f :: f' :: r, [], _, _, h => by simp [fsText] at h
  | [f], [g], h1, h2, h => by rw [fText_inj (h1 f (by simp)) (h2 g (by simp)) h]
  | [f], g :: g' :: r, h1, h2, h => by
    rw [fsText_one, fsText_two] at h
    exact absurd rfl (fText_no (h1 f (by simp)) 44 (by rw [h]; simp)).1
  | f :: f' :: r, [g], h1, h2, h => by
    rw [fsText_one, fsText_two] at h
    exact absurd rfl (fText_no (h2 g (by simp)) 44 (by rw [← h]; simp)).1
  | f :: f' :: r, g :: g' :: q, h1, h2, h => by
    rw [fsText_two, fsText_two] at h
    obtain ⟨e1, e2⟩ := cut_eq (fun hm => (fText_no (h1 f (by simp)) 44 hm).1 rfl) (fun hm => (fText_no (h2 g (by simp)) 44 hm).1 rfl) h
    rw [fText_inj (h1 f (by simp)) (h2 g (by simp)) e1, fsText_inj (fun x hx => h1 x (List.mem_cons_of_mem _ hx)) (fun x hx => h2 x (List.mem_cons_of_mem _ hx)) e2]
theorem tText_ne (t : Typ) (r : List Nat) : tText t ++ r ≠ [] := by rw [tText]; simp
/-- A type's text, whatever stands behind it, tells the type, and that. -/
theorem tText_inj {t u : Typ} {a b : List Nat} (ht : goodT t) (hu : goodT u) (h : tText t ++ a = tText u ++ b) : t = u ∧ a = b := by
  rw [tText, tText, List.append_assoc, List.append_assoc, List.cons_append, List.cons_append, List.append_assoc, List.append_assoc] at h
  obtain ⟨e1, h⟩ := cut_eq (fun hm => (ht.1.2 _ hm).2.2.1 rfl) (fun hm => (hu.1.2 _ hm).2.2.1 rfl) h
  rw [List.singleton_append, List.singleton_append] at h
  obtain ⟨e2, h⟩ := cut_eq (fun hm => (fsText_no ht.2 _ hm).2 rfl) (fun hm => (fsText_no hu.2 _ hm).2 rfl) h
  exact ⟨Prod.ext e1 (fsText_inj ht.2 hu.2 e2), h⟩
theorem sText_inj : ∀ {s r : Sch}, goodS s → goodS r → sText s = sText r → s = r
  | [], [], _, _, _ => rfl
  | [], u :: r, _, _, h => absurd h.symm (tText_ne u _)
  | t :: s, [], _, _, h => absurd h (tText_ne t _)
  | t :: s, u :: r, h1, h2, h => by
    obtain ⟨rfl, h3⟩ := tText_inj (h1 t (by simp)) (h2 u (by simp)) h
    rw [sText_inj (s := s) (r := r) (fun x hx => h1 x (by simp [hx])) (fun x hx => h2 x (by simp [hx])) h3]
theorem sText_ne {s : Sch} (h : s ≠ []) : sText s ≠ [] := by
  cases s with
  | nil => exact absurd rfl h
  | cons t s => exact tText_ne t _
theorem textS_may {s : Sch} (h : mayS s = true) : textS s = sText s := by rw [textS, if_pos h]
theorem textS_not {s : Sch} (h : mayS s = false) : textS s = [] := by rw [textS, if_neg (by simp [h])]
theorem textS_inj {s r : Sch} (hs : mayS s = true) (hr : mayS r = true) (h : textS s = textS r) : s = r := by
  rw [textS_may hs, textS_may hr] at h
  exact sText_inj (mayS_good hs) (mayS_good hr) h

/-- As many openings as closings, and a closing at the end. -/
theorem tText_count {t : Typ} (h : goodT t) : (tText t).count 123 = 1 ∧ (tText t).count 125 = 1 := by
  have a1 : t.1.count 123 = 0 := List.count_eq_zero.2 fun hm => (h.1.2 _ hm).2.2.1 rfl
  have a2 : t.1.count 125 = 0 := List.count_eq_zero.2 fun hm => (h.1.2 _ hm).2.2.2 rfl
  have a3 : (fsText t.2).count 123 = 0 := List.count_eq_zero.2 fun hm => (fsText_no h.2 _ hm).1 rfl
  have a4 : (fsText t.2).count 125 = 0 := List.count_eq_zero.2 fun hm => (fsText_no h.2 _ hm).2 rfl
  constructor <;> simp [tText, List.count_append, a1, a2, a3, a4]
theorem sText_count : ∀ {s : Sch}, goodS s → (sText s).count 123 = s.length ∧ (sText s).count 125 = s.length
  | [], _ => ⟨rfl, rfl⟩
  | t :: s, h => by
    obtain ⟨h1, h2⟩ := tText_count (h t (by simp))
    obtain ⟨h3, h4⟩ := sText_count (s := s) fun x hx => h x (by simp [hx])
    rw [sText, List.count_append, List.count_append, h1, h2, h3, h4, List.length_cons]
    omega
theorem sText_last : ∀ {s : Sch}, s ≠ [] → ∃ a, sText s = a ++ [125]
  | [], h => absurd rfl h
  | [t], _ => ⟨t.1 ++ 123 :: fsText t.2, by simp [sText, tText]⟩
  | t :: u :: s, _ => by
    obtain ⟨a, ha⟩ := sText_last (s := u :: s) (by simp)
    exact ⟨tText t ++ a, by rw [sText, ha, List.append_assoc]⟩
end Go.Proofs.Yteafbdebmhpffaa
