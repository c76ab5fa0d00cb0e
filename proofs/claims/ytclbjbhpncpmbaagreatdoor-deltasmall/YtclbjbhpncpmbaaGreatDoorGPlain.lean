/- The texts ScPlainAll, GrActsAll, GrLeapPlainAll, CaQAll in one (as far as the seat has what they speak of); what each proves, and its conditions, stands before it. -/
import Derived.Laws.RangeAny
import Derived.WalkKit
/- The texts NaPlain, NaSigns, NaNames, ScPlain in one; what each proves, and its conditions, stands before it. -/
/- Texts as lists of bytes, their signs, and names among them: plain facts, and that the model's own reading of a sign is this one. No condition. -/
namespace Go.Proofs.YtclbjbhpncpmbaaGreatDoor

/-- A text's bytes, as numbers. -/
def byt (s : ByteArray) : List Nat := s.data.toList.map UInt8.toNat
@[simp] theorem byt_length (s : ByteArray) : (byt s).length = s.size := by
  rw [byt, List.length_map, Array.length_toList]; rfl
theorem byt_lt (s : ByteArray) : ∀ x ∈ byt s, x < 256 := by
  intro x hx
  obtain ⟨u, _, rfl⟩ := List.mem_map.1 hx
  exact u.toNat_lt
theorem byt_getD (s : ByteArray) (i : Nat) : (byt s).getD i 0 = (s.get! i).toNat := by
  have h : s.get! i = s.data.toList.getD i 0 := by
    show s.data[i]! = _
    rw [List.getD_eq_getElem?_getD, Array.getElem?_toList, getElem!_def]
    cases s.data[i]? <;> rfl
  rw [h, byt, List.getD_eq_getElem?_getD, List.getD_eq_getElem?_getD, List.getElem?_map]
  cases s.data.toList[i]? <;> rfl
theorem byt_inj {s t : ByteArray} (h : byt s = byt t) : s = t := by
  obtain ⟨⟨s⟩⟩ := s
  obtain ⟨⟨t⟩⟩ := t
  have : s = t := by
    simp only [byt] at h
    exact List.map_inj_right (fun a b e => UInt8.toNat_inj.1 e) |>.1 h
  rw [this]

/-- Is x a byte that goes on with a sign? -/
def mid (x : Nat) : Bool := decide (128 ≤ x ∧ x < 192)
def v3 (a b c : Nat) : Nat := (a - 224) * 4096 + (b - 128) * 64 + (c - 128)
def v4 (a b c d : Nat) : Nat := (a - 240) * 262144 + (b - 128) * 4096 + (c - 128) * 64 + (d - 128)
def sigOf (a b c d : Nat) : Nat × Nat :=
  if a < 128 then (a, 1)
  else if 194 ≤ a ∧ a < 224 ∧ mid b then ((a - 192) * 64 + (b - 128), 2)
  else if 224 ≤ a ∧ a < 240 ∧ mid b ∧ mid c ∧ 2048 ≤ v3 a b c ∧ ¬ (55296 ≤ v3 a b c ∧ v3 a b c < 57344) then (v3 a b c, 3)
  else if 240 ≤ a ∧ a < 248 ∧ mid b ∧ mid c ∧ mid d ∧ 65536 ≤ v4 a b c d ∧ v4 a b c d < 1114112 then (v4 a b c d, 4)
  else (65533, 1)
/-- The sign that bytes begin by, and how many bytes it has. -/
def sig (l : List Nat) : Nat × Nat := sigOf (l.getD 0 0) (l.getD 1 0) (l.getD 2 0) (l.getD 3 0)

theorem mid_of {x : Nat} (h : mid x = true) : 128 ≤ x ∧ x < 192 := of_decide_eq_true h
section
variable {a b c d : Nat}
theorem sig_1 (h : a < 128) : sigOf a b c d = (a, 1) := by rw [sigOf, if_pos h]
theorem sig_2 (h : 194 ≤ a) (h' : a < 224) (hb : mid b = true) : sigOf a b c d = ((a - 192) * 64 + (b - 128), 2) := by
  rw [sigOf, if_neg (by omega), if_pos ⟨h, h', hb⟩]
theorem sig_3 (h : 224 ≤ a) (h' : a < 240) (hb : mid b = true) (hc : mid c = true) (hv : 2048 ≤ v3 a b c) (hs : ¬ (55296 ≤ v3 a b c ∧ v3 a b c < 57344)) : sigOf a b c d = (v3 a b c, 3) := by
  rw [sigOf, if_neg (by omega), if_neg (by omega), if_pos ⟨h, h', hb, hc, hv, hs⟩]
theorem sig_4 (h : 240 ≤ a) (h' : a < 248) (hb : mid b = true) (hc : mid c = true) (hd : mid d = true) (hv : 65536 ≤ v4 a b c d) (hs : v4 a b c d < 1114112) : sigOf a b c d = (v4 a b c d, 4) := by
  rw [sigOf, if_neg (by omega), if_neg (by omega), if_neg (by omega), if_pos ⟨h, h', hb, hc, hd, hv, hs⟩]
theorem sig_x (h : ¬ a < 128) (h2 : ¬ (194 ≤ a ∧ a < 224 ∧ mid b = true)) (h3 : ¬ (224 ≤ a ∧ a < 240 ∧ mid b = true ∧ mid c = true ∧ 2048 ≤ v3 a b c ∧ ¬ (55296 ≤ v3 a b c ∧ v3 a b c < 57344)))
    (h4 : ¬ (240 ≤ a ∧ a < 248 ∧ mid b = true ∧ mid c = true ∧ mid d = true ∧ 65536 ≤ v4 a b c d ∧ v4 a b c d < 1114112)) : sigOf a b c d = (65533, 1) := by
  rw [sigOf, if_neg h, if_neg h2, if_neg h3, if_neg h4]
end
theorem valid_nat (v : Nat) : Utf8.valid (v : Int) = true ↔ v < 55296 ∨ (57344 ≤ v ∧ v < 1114112) := by
  rw [Utf8.valid, Bool.or_eq_true, Bool.and_eq_true, Bool.and_eq_true, decide_eq_true_iff, decide_eq_true_iff, decide_eq_true_iff, decide_eq_true_iff]
  omega
theorem dec_sig (s : ByteArray) (i : Nat) : Utf8.decode s i = sig ((byt s).drop i) := by
  have hg : ∀ k, (s.get! (i + k)).toNat = ((byt s).drop i).getD k 0 := fun k => by
    rw [← byt_getD, List.getD_eq_getElem?_getD, List.getD_eq_getElem?_getD, List.getElem?_drop]
  have hc : ∀ k, (decide (i + k < s.size) && ((byt s).drop i).getD k 0 / 64 == 2) = mid (((byt s).drop i).getD k 0) := fun k => by
    by_cases h : i + k < s.size
    · rw [decide_eq_true h, Bool.true_and, mid]
      generalize ((byt s).drop i).getD k 0 = x
      by_cases hm : 128 ≤ x ∧ x < 192
      · rw [decide_eq_true hm]; exact beq_iff_eq.2 (by omega)
      · rw [decide_eq_false hm]; exact beq_eq_false_iff_ne.2 (by omega)
    · have h0 : ((byt s).drop i).getD k 0 = 0 := by
        rw [List.getD_eq_getElem?_getD, List.getElem?_eq_none (by rw [List.length_drop, byt_length]; omega)]; rfl
      rw [h0, decide_eq_false h]; rfl
  have hl : ∀ k, ((byt s).drop i).getD k 0 < 256 := fun k => by rw [← hg]; exact UInt8.toNat_lt _
  have l0 := hl 0; have l1 := hl 1; have l2 := hl 2; have l3 := hl 3
  simp only [Utf8.decode, hg, hc, sig]
  generalize ((byt s).drop i).getD 0 0 = a at *
  generalize ((byt s).drop i).getD 1 0 = b at *
  generalize ((byt s).drop i).getD 2 0 = c at *
  generalize ((byt s).drop i).getD 3 0 = d at *
  clear hg hc hl
  have hre : Utf8.runeError = 65533 := rfl
  rw [hre]
  by_cases ha : a < 128
  · rw [if_pos ha, sig_1 ha]
  rw [if_neg ha]
  by_cases h2 : (a / 32 == 6 && mid b) = true
  · rw [if_pos h2]
    rw [Bool.and_eq_true, beq_iff_eq] at h2
    obtain ⟨h2, hb⟩ := h2
    have hb' := mid_of hb
    by_cases h4 : 194 ≤ a
    · have e : a % 32 * 64 + b % 64 = (a - 192) * 64 + (b - 128) := by omega
      rw [if_pos (by omega), sig_2 h4 (by omega) hb, e]
    · rw [if_neg (by omega), sig_x ha (by omega) (by omega) (by omega)]
  rw [if_neg h2]
  have g2 : ¬ (194 ≤ a ∧ a < 224 ∧ mid b = true) := fun h => h2 (by rw [Bool.and_eq_true, beq_iff_eq]; exact ⟨by omega, h.2.2⟩)
  by_cases h3 : (a / 16 == 14 && mid b && mid c) = true
  · rw [if_pos h3]
    rw [Bool.and_eq_true, Bool.and_eq_true, beq_iff_eq] at h3
    obtain ⟨⟨h3, hb⟩, hcc⟩ := h3
    have hb' := mid_of hb
    have hc' := mid_of hcc
    have hv : a % 16 * 4096 + b % 64 * 64 + c % 64 = v3 a b c := by unfold v3; omega
    have hlt : v3 a b c < 65536 := by unfold v3; omega
    rw [hv]
    by_cases hq : 2048 ≤ v3 a b c ∧ ¬ (55296 ≤ v3 a b c ∧ v3 a b c < 57344)
    · rw [if_pos (by rw [Bool.and_eq_true, decide_eq_true_iff, valid_nat]; omega), sig_3 (by omega) (by omega) hb hcc hq.1 hq.2]
    · rw [if_neg (by rw [Bool.and_eq_true, decide_eq_true_iff, valid_nat]; omega), sig_x ha g2 (fun h => hq h.2.2.2.2) (by omega)]
  rw [if_neg h3]
  have g3 : ¬ (224 ≤ a ∧ a < 240 ∧ mid b = true ∧ mid c = true ∧ 2048 ≤ v3 a b c ∧ ¬ (55296 ≤ v3 a b c ∧ v3 a b c < 57344)) := fun h => h3 (by rw [Bool.and_eq_true, Bool.and_eq_true, beq_iff_eq]; exact ⟨⟨by omega, h.2.2.1⟩, h.2.2.2.1⟩)
  by_cases h4 : (a / 8 == 30 && mid b && mid c && mid d) = true
  · rw [if_pos h4]
    rw [Bool.and_eq_true, Bool.and_eq_true, Bool.and_eq_true, beq_iff_eq] at h4
    obtain ⟨⟨⟨h4, hb⟩, hcc⟩, hd⟩ := h4
    have hb' := mid_of hb
    have hc' := mid_of hcc
    have hd' := mid_of hd
    have hv : a % 8 * 262144 + b % 64 * 4096 + c % 64 * 64 + d % 64 = v4 a b c d := by unfold v4; omega
    rw [hv]
    by_cases hq : 65536 ≤ v4 a b c d ∧ v4 a b c d < 1114112
    · rw [if_pos (by rw [Bool.and_eq_true, decide_eq_true_iff, valid_nat]; omega), sig_4 (by omega) (by omega) hb hcc hd hq.1 hq.2]
    · rw [if_neg (by rw [Bool.and_eq_true, decide_eq_true_iff, valid_nat]; omega), sig_x ha g2 g3 (fun h => hq h.2.2.2.2.2)]
  rw [if_neg h4, sig_x ha g2 g3 (fun h => h4 (by rw [Bool.and_eq_true, Bool.and_eq_true, Bool.and_eq_true, beq_iff_eq]; exact ⟨⟨⟨by omega, h.2.2.1⟩, h.2.2.2.1⟩, h.2.2.2.2.1⟩))]
end Go.Proofs.YtclbjbhpncpmbaaGreatDoor

/- The signs of bytes, one after the other; names among them; what is ahead. Plain facts, no condition. -/
namespace Go.Proofs.YtclbjbhpncpmbaaGreatDoor

theorem sigOf_cases (a b c d : Nat) : (a < 128 ∧ sigOf a b c d = (a, 1)) ∨ (194 ≤ a ∧ a < 224 ∧ mid b = true ∧ sigOf a b c d = ((a - 192) * 64 + (b - 128), 2)) ∨
    (224 ≤ a ∧ mid b = true ∧ mid c = true ∧ 2048 ≤ v3 a b c ∧ sigOf a b c d = (v3 a b c, 3)) ∨ (240 ≤ a ∧ mid b = true ∧ mid c = true ∧ mid d = true ∧ 65536 ≤ v4 a b c d ∧ sigOf a b c d = (v4 a b c d, 4)) ∨ (128 ≤ a ∧ sigOf a b c d = (65533, 1)) := by
  by_cases ha : a < 128
  · exact .inl ⟨ha, sig_1 ha⟩
  by_cases h2 : 194 ≤ a ∧ a < 224 ∧ mid b = true
  · exact .inr (.inl ⟨h2.1, h2.2.1, h2.2.2, sig_2 h2.1 h2.2.1 h2.2.2⟩)
  by_cases h3 : 224 ≤ a ∧ a < 240 ∧ mid b = true ∧ mid c = true ∧ 2048 ≤ v3 a b c ∧ ¬ (55296 ≤ v3 a b c ∧ v3 a b c < 57344)
  · exact .inr (.inr (.inl ⟨h3.1, h3.2.2.1, h3.2.2.2.1, h3.2.2.2.2.1, sig_3 h3.1 h3.2.1 h3.2.2.1 h3.2.2.2.1 h3.2.2.2.2.1 h3.2.2.2.2.2⟩))
  by_cases h4 : 240 ≤ a ∧ a < 248 ∧ mid b = true ∧ mid c = true ∧ mid d = true ∧ 65536 ≤ v4 a b c d ∧ v4 a b c d < 1114112
  · exact .inr (.inr (.inr (.inl ⟨h4.1, h4.2.2.1, h4.2.2.2.1, h4.2.2.2.2.1, h4.2.2.2.2.2.1, sig_4 h4.1 h4.2.1 h4.2.2.1 h4.2.2.2.1 h4.2.2.2.2.1 h4.2.2.2.2.2.1 h4.2.2.2.2.2.2⟩)))
  · exact .inr (.inr (.inr (.inr ⟨by omega, sig_x ha h2 h3 h4⟩)))

theorem mid_in {l : List Nat} {k : Nat} (h : mid (l.getD k 0) = true) : k < l.length := by
  rcases Nat.lt_or_ge k l.length with h1 | h1
  · exact h1
  · rw [List.getD_eq_getElem?_getD, List.getElem?_eq_none h1] at h
    cases h
/-- A sign has one byte at least, no more than there are, and what is not its first one goes on with it. -/
theorem sig_wide (l : List Nat) : 1 ≤ (sig l).2 ∧ (l ≠ [] → (sig l).2 ≤ l.length) ∧ ∀ k, 1 ≤ k → k < (sig l).2 → mid (l.getD k 0) = true := by
  have hne : l ≠ [] → 1 ≤ l.length := fun h => List.length_pos_iff.2 h
  rw [sig]
  rcases sigOf_cases (l.getD 0 0) (l.getD 1 0) (l.getD 2 0) (l.getD 3 0) with ⟨_, e⟩ | ⟨_, _, h1, e⟩ | ⟨_, h1, h2, _, e⟩ | ⟨_, h1, h2, h3, _, e⟩ | ⟨_, e⟩
  all_goals rw [e]
  · exact ⟨Nat.le_refl _, hne, fun k hk hk' => absurd hk' (by simp only; omega)⟩
  · have := mid_in h1
    refine ⟨by simp, fun _ => by simp only; omega, fun k hk hk' => ?_⟩
    simp only at hk'
    obtain rfl : k = 1 := by omega
    exact h1
  · have := mid_in h2
    refine ⟨by simp, fun _ => by simp only; omega, fun k hk hk' => ?_⟩
    simp only at hk'
    obtain rfl | rfl : k = 1 ∨ k = 2 := by omega
    · exact h1
    · exact h2
  · have := mid_in h3
    refine ⟨by simp, fun _ => by simp only; omega, fun k hk hk' => ?_⟩
    simp only at hk'
    obtain rfl | rfl | rfl : k = 1 ∨ k = 2 ∨ k = 3 := by omega
    · exact h1
    · exact h2
    · exact h3
  · exact ⟨Nat.le_refl _, hne, fun k hk hk' => absurd hk' (by simp only; omega)⟩

def sigs : Nat → List Nat → List Nat
  | 0, _ => []
  | n + 1, l => if l = [] then [] else (sig l).1 :: sigs n (l.drop (sig l).2)
/-- The signs of bytes. -/
def sgn (l : List Nat) : List Nat := sigs l.length l
theorem sigs_enough : ∀ (n m : Nat) (l : List Nat), l.length ≤ n → l.length ≤ m → sigs n l = sigs m l := by
  intro n
  induction n with
  | zero =>
    intro m l h1 _
    obtain rfl : l = [] := List.eq_nil_of_length_eq_zero (by omega)
    cases m <;> simp [sigs]
  | succ n ih =>
    intro m l h1 h2
    by_cases hl : l = []
    · subst hl
      cases m <;> simp [sigs]
    · cases m with
      | zero => exact absurd (List.eq_nil_of_length_eq_zero (by omega)) hl
      | succ m =>
        have hw := (sig_wide l).1
        have hlen : (l.drop (sig l).2).length ≤ l.length - 1 := by rw [List.length_drop]; omega
        rw [sigs, sigs, if_neg hl, if_neg hl, ih m _ (by omega) (by omega)]
theorem sgn_nil : sgn [] = [] := rfl
theorem sgn_cons {l : List Nat} (h : l ≠ []) : sgn l = (sig l).1 :: sgn (l.drop (sig l).2) := by
  have hp : 0 < l.length := List.length_pos_iff.2 h
  have hw := (sig_wide l).1
  obtain ⟨n, hn⟩ : ∃ n, l.length = n + 1 := ⟨l.length - 1, by omega⟩
  rw [sgn, hn, sigs, if_neg h, sgn]
  rw [sigs_enough n _ _ (by rw [List.length_drop]; omega) (Nat.le_refl _)]
theorem sgn_length_le (l : List Nat) : (sgn l).length ≤ l.length := by
  suffices h : ∀ (n : Nat) (l : List Nat), l.length ≤ n → (sgn l).length ≤ l.length from h _ l (Nat.le_refl _)
  intro n
  induction n with
  | zero =>
    intro l hl
    obtain rfl : l = [] := List.eq_nil_of_length_eq_zero (by omega)
    simp [sgn_nil]
  | succ n ih =>
    intro l hl
    by_cases h : l = []
    · subst h; simp [sgn_nil]
    · have hp : 0 < l.length := List.length_pos_iff.2 h
      have hw := (sig_wide l).1
      have := ih (l.drop (sig l).2) (by rw [List.length_drop]; omega)
      rw [sgn_cons h, List.length_cons]
      rw [List.length_drop] at this
      omega

/-- The bytes of a sign below 2048. -/
def encS (c : Nat) : List Nat := if c < 128 then [c] else [192 + c / 64, 128 + c % 64]
def encL : List Nat → List Nat
  | [] => []
  | c :: cs => encS c ++ encL cs
theorem encL_append (a b : List Nat) : encL (a ++ b) = encL a ++ encL b := by
  induction a with
  | nil => rfl
  | cons c a ih => rw [List.cons_append, encL, encL, ih, List.append_assoc]
theorem encS_ne (c : Nat) (t : List Nat) : encS c ++ t ≠ [] := by unfold encS; split <;> simp
theorem sig_enc {c : Nat} (h : c < 2048) (t : List Nat) : sig (encS c ++ t) = (c, (encS c).length) := by
  rw [sig, encS]
  by_cases h1 : c < 128
  · rw [if_pos h1]
    exact sig_1 h1
  · rw [if_neg h1]
    have e : (192 + c / 64 - 192) * 64 + (128 + c % 64 - 128) = c := by omega
    have hm : mid (128 + c % 64) = true := decide_eq_true (by omega)
    have := sig_2 (a := 192 + c / 64) (b := 128 + c % 64) (c := ([192 + c / 64, 128 + c % 64] ++ t).getD 2 0) (d := ([192 + c / 64, 128 + c % 64] ++ t).getD 3 0) (by omega) (by omega) hm
    rw [e] at this
    exact this
theorem sgn_enc : ∀ (cs t : List Nat), (∀ c ∈ cs, c < 2048) → sgn (encL cs ++ t) = cs ++ sgn t
  | [], t, _ => rfl
  | c :: cs, t, h => by
    have hc := h c (by simp)
    rw [encL, List.append_assoc, sgn_cons (encS_ne _ _), sig_enc hc]
    simp only [List.drop_left]
    rw [sgn_enc cs t (fun x hx => h x (by simp [hx]))]
    rfl
theorem two_more {l : List Nat} (h : 2 ≤ l.length) : ∃ a b t, l = a :: b :: t := by
  rcases l with _ | ⟨a, _ | ⟨b, t⟩⟩
  · simp at h
  · simp at h
  · exact ⟨a, b, t, rfl⟩
theorem sig_back {l : List Nat} (hl : l ≠ []) (h : (sig l).1 < 2048) : l = encS (sig l).1 ++ l.drop (sig l).2 := by
  have hw := (sig_wide l).2.1 hl
  rw [sig] at h hw ⊢
  rcases sigOf_cases (l.getD 0 0) (l.getD 1 0) (l.getD 2 0) (l.getD 3 0) with ⟨h0, e⟩ | ⟨h0, h0', h1, e⟩ | ⟨_, _, _, h1, e⟩ | ⟨_, _, _, _, h1, e⟩ | ⟨_, e⟩
  all_goals rw [e] at h hw ⊢
  all_goals simp only at h hw ⊢
  · cases l with
    | nil => exact absurd rfl hl
    | cons a t =>
      simp only [List.getD_cons_zero] at h0 ⊢
      rw [encS, if_pos h0]; rfl
  · clear e h
    obtain ⟨a, b, t, rfl⟩ := two_more hw
    simp only [List.getD_cons_zero, List.getD_cons_succ] at h0 h0' h1 ⊢
    have hb := mid_of h1
    have e1 : 192 + ((a - 192) * 64 + (b - 128)) / 64 = a := by omega
    have e2 : 128 + ((a - 192) * 64 + (b - 128)) % 64 = b := by omega
    rw [encS, if_neg (by omega), e1, e2]; rfl
  · omega
  · omega
  · omega
theorem enc_sgn (l : List Nat) (h : ∀ c ∈ sgn l, c < 2048) : encL (sgn l) = l := by
  suffices H : ∀ (n : Nat) (l : List Nat), l.length ≤ n → (∀ c ∈ sgn l, c < 2048) → encL (sgn l) = l from H _ l (Nat.le_refl _) h
  intro n
  induction n with
  | zero =>
    intro l hl _
    obtain rfl : l = [] := List.eq_nil_of_length_eq_zero (by omega)
    rfl
  | succ n ih =>
    intro l hl hc
    by_cases h0 : l = []
    · subst h0; rfl
    · have hw := (sig_wide l).1
      have hp : 0 < l.length := List.length_pos_iff.2 h0
      rw [sgn_cons h0] at hc ⊢
      have hb := sig_back h0 (hc _ (by simp))
      rw [encL, ih _ (by rw [List.length_drop]; omega) (fun c h => hc c (by simp [h]))]
      exact hb.symm
/-- A byte below 128 is a sign wherever it stands. -/
theorem low_mem {l : List Nat} {c : Nat} (hm : c ∈ l) (hc : c < 128) : c ∈ sgn l := by
  suffices H : ∀ (n : Nat) (l : List Nat), l.length ≤ n → c ∈ l → c ∈ sgn l from H _ l (Nat.le_refl _) hm
  intro n
  induction n with
  | zero =>
    intro l hl h
    obtain rfl : l = [] := List.eq_nil_of_length_eq_zero (by omega)
    simp at h
  | succ n ih =>
    intro l hl h
    have h0 : l ≠ [] := List.ne_nil_of_mem h
    have hp : 0 < l.length := List.length_pos_iff.2 h0
    obtain ⟨hw1, hw2, hw3⟩ := sig_wide l
    rw [sgn_cons h0]
    obtain ⟨k, hk, rfl⟩ := List.getElem_of_mem h
    have hg : l.getD k 0 = l[k] := by rw [List.getD_eq_getElem?_getD, List.getElem?_eq_getElem hk]; rfl
    by_cases hk2 : (sig l).2 ≤ k
    · refine List.mem_cons_of_mem _ (ih _ (by rw [List.length_drop]; omega) ?_)
      rw [List.mem_iff_getElem?]
      exact ⟨k - (sig l).2, by rw [List.getElem?_drop, show (sig l).2 + (k - (sig l).2) = k by omega, List.getElem?_eq_getElem hk]⟩
    · by_cases hk0 : k = 0
      · subst hk0
        have : sig l = (l[0], 1) := by rw [sig, hg]; exact sig_1 hc
        rw [this]; simp
      · have := mid_of (hw3 k (by omega) (by omega))
        rw [hg] at this
        omega
end Go.Proofs.YtclbjbhpncpmbaaGreatDoor

/- Names, on lists of bytes: which may be, joined and split ones, and the order of any texts by their signs. Plain facts, no condition. -/
namespace Go.Proofs.YtclbjbhpncpmbaaGreatDoor

theorem byt_append (s t : ByteArray) : byt (s ++ t) = byt s ++ byt t := by
  rw [byt, byt, byt, ← List.map_append]
  rw [ByteArray.data_append, Array.toList_append]
theorem byt_extract (s : ByteArray) (a b : Nat) : byt (s.extract a b) = ((byt s).take b).drop a := by
  rw [byt, byt, ByteArray.data_extract, Array.toList_extract, List.extract_eq_take_drop, ← List.map_take, ← List.map_drop]
  congr 1
  rw [List.drop_take]

def letS (c : Nat) : Bool := decide (97 ≤ c ∧ c ≤ 122) || (decide (223 ≤ c ∧ c ≤ 255) && decide (c ≠ 247))
def digS (c : Nat) : Bool := decide (48 ≤ c ∧ c ≤ 57)
def okS (c : Nat) : Bool := letS c || digS c
theorem letS_lt {c : Nat} (h : letS c = true) : 97 ≤ c ∧ c < 256 := by
  simp [letS] at h; omega
theorem okS_lt {c : Nat} (h : okS c = true) : 48 ≤ c ∧ c < 256 := by
  simp [okS, letS, digS] at h; omega
/-- Do these signs make a name? -/
def nameS : List Nat → Bool
  | [] => false
  | c :: t => letS c && t.all okS && decide (t.length < 8)
def mayN (l : List Nat) : Bool := nameS (sgn l)
def lenN (l : List Nat) : Nat := if mayN l = true then (sgn l).length else 0
theorem nameS_ok {cs : List Nat} (h : nameS cs = true) : cs ≠ [] ∧ cs.length ≤ 8 ∧ ∀ c ∈ cs, okS c = true := by
  cases cs with
  | nil => cases h
  | cons c t =>
    rw [nameS, Bool.and_eq_true, Bool.and_eq_true, decide_eq_true_iff, List.all_eq_true] at h
    refine ⟨by simp, by rw [List.length_cons]; omega, fun x hx => ?_⟩
    rcases List.mem_cons.1 hx with rfl | hx
    · rw [okS, h.1.1]; rfl
    · exact h.1.2 x hx
theorem nameS_append {x y : List Nat} (h : nameS x = true) (hy : ∀ c ∈ y, okS c = true) : nameS (x ++ y) = decide (x.length + y.length ≤ 8) := by
  cases x with
  | nil => cases h
  | cons c t =>
    rw [nameS, Bool.and_eq_true, Bool.and_eq_true, decide_eq_true_iff] at h
    have hy' : y.all okS = true := List.all_eq_true.2 hy
    rw [List.cons_append, nameS, h.1.1, List.all_append, h.1.2, hy', List.length_append, List.length_cons]
    simp only [Bool.true_and, Bool.and_self]
    rw [Bool.eq_iff_iff, decide_eq_true_iff, decide_eq_true_iff]
    omega
theorem nameS_take {x : List Nat} (h : nameS x = true) {j : Nat} (h1 : 1 ≤ j) : nameS (x.take j) = true := by
  cases x with
  | nil => cases h
  | cons c t =>
    obtain ⟨i, rfl⟩ : ∃ i, j = i + 1 := ⟨j - 1, by omega⟩
    rw [nameS, Bool.and_eq_true, Bool.and_eq_true, decide_eq_true_iff, List.all_eq_true] at h
    rw [List.take_succ_cons, nameS, Bool.and_eq_true, Bool.and_eq_true, decide_eq_true_iff, List.all_eq_true]
    refine ⟨⟨h.1.1, fun z hz => h.1.2 z (List.mem_of_mem_take hz)⟩, ?_⟩
    rw [List.length_take]
    omega
section
variable {a b : List Nat}
theorem may_lt (h : mayN a = true) : ∀ c ∈ sgn a, c < 2048 := fun c hc => by
  have := okS_lt ((nameS_ok h).2.2 c hc); omega
theorem may_enc (h : mayN a = true) : encL (sgn a) = a := enc_sgn a (may_lt h)
theorem may_inj (ha : mayN a = true) (hb : mayN b = true) (h : sgn a = sgn b) : a = b := by rw [← may_enc ha, h, may_enc hb]
theorem may_sgn (h : mayN a = true) (b : List Nat) : sgn (a ++ b) = sgn a ++ sgn b := by
  have := sgn_enc (sgn a) b (may_lt h)
  rw [may_enc h] at this
  exact this
theorem may_ne (h : mayN a = true) : a ≠ [] := by rintro rfl; cases h
theorem lenN_pos : lenN a = 0 ↔ mayN a = false := by
  rw [lenN]
  cases h : mayN a with
  | true =>
    rw [if_pos rfl]
    have := List.length_pos_iff.2 (nameS_ok h).1
    constructor
    · intro e; omega
    · intro e; cases e
  | false => simp
theorem lenN_le (h : mayN a = true) : lenN a = (sgn a).length ∧ 1 ≤ lenN a ∧ lenN a ≤ 8 ∧ lenN a ≤ a.length := by
  have h1 := List.length_pos_iff.2 (nameS_ok h).1
  have h2 := (nameS_ok h).2.1
  have h3 := sgn_length_le a
  rw [lenN, if_pos h]
  exact ⟨rfl, h1, h2, h3⟩
/-- Two names side by side. -/
theorem may_cat (ha : mayN a = true) (hb : mayN b = true) : mayN (a ++ b) = decide (lenN a + lenN b ≤ 8) ∧ (mayN (a ++ b) = true → lenN (a ++ b) = lenN a + lenN b) := by
  have e : mayN (a ++ b) = decide (lenN a + lenN b ≤ 8) := by
    rw [mayN, may_sgn ha, nameS_append ha (nameS_ok hb).2.2, (lenN_le ha).1, (lenN_le hb).1]
  refine ⟨e, fun h => ?_⟩
  rw [(lenN_le h).1, may_sgn ha, List.length_append, (lenN_le ha).1, (lenN_le hb).1]
theorem sgn_low {c : Nat} (h : c < 128) (t : List Nat) : sgn (c :: t) = c :: sgn t := by
  have := sgn_enc [c] t (by simp; omega)
  rw [encL, encL, encS, if_pos h] at this
  exact this
/-- A digit behind a name. -/
theorem may_dig (ha : mayN a = true) {d : Nat} (hd : digS d = true) : mayN (a ++ [d]) = decide (lenN a < 8) := by
  have hl : d < 128 := by simp [digS] at hd; omega
  rw [mayN, may_sgn ha, sgn_low hl, sgn_nil, nameS_append ha (by intro c hc; simp at hc; subst hc; rw [okS, hd, Bool.or_true]), (lenN_le ha).1]
  simp only [List.length_cons, List.length_nil]
  rw [Bool.eq_iff_iff, decide_eq_true_iff, decide_eq_true_iff]
  omega
/-- A byte below 128 of a name is a letter or a digit. -/
theorem may_low (ha : mayN a = true) {c : Nat} (hc : c ∈ a) (hl : c < 128) : okS c = true := (nameS_ok ha).2.2 c (low_mem hc hl)
theorem may_nodot (ha : mayN a = true) : 46 ∉ a := fun h => by
  have := okS_lt (may_low ha h (by omega)); omega
end
/-- What signs' bytes begin by, cut where a sign begins, is some signs' bytes. -/
theorem enc_cut : ∀ (cs : List Nat) (k : Nat), k < (encL cs).length → mid ((encL cs).getD k 0) = false → ∃ j, j < cs.length ∧ (encL cs).take k = encL (cs.take j) ∧ (1 ≤ k → 1 ≤ j)
  | [], k, h, _ => by simp [encL] at h
  | c :: cs, k, h, hm => by
    by_cases h0 : k = 0
    · subst h0; exact ⟨0, by simp, by simp [encL], fun h => h⟩
    · rw [encL] at h hm ⊢
      rw [List.length_append] at h
      by_cases hk : (encS c).length ≤ k
      · have hg : (encS c ++ encL cs).getD k 0 = (encL cs).getD (k - (encS c).length) 0 := by
          rw [List.getD_eq_getElem?_getD, List.getD_eq_getElem?_getD, List.getElem?_append_right hk]
        rw [hg] at hm
        obtain ⟨j, hj, e, _⟩ := enc_cut cs (k - (encS c).length) (by omega) hm
        refine ⟨j + 1, by rw [List.length_cons]; omega, ?_, fun _ => by omega⟩
        rw [List.take_succ_cons, encL, ← e, List.take_append, List.take_of_length_le hk]
      · exfalso
        rw [encS] at hk hm
        by_cases hc : c < 128
        · rw [if_pos hc] at hk; simp at hk; omega
        · rw [if_neg hc] at hk hm
          simp only [List.length_cons, List.length_nil] at hk
          obtain rfl : k = 1 := by omega
          have : mid (128 + c % 64) = true := decide_eq_true (by omega)
          simp only [List.cons_append, List.getD_cons_succ, List.getD_cons_zero] at hm
          rw [this] at hm
          cases hm
theorem may_take {a : List Nat} (ha : mayN a = true) {k : Nat} (h1 : 1 ≤ k) (h2 : k < a.length) (hm : mid (a.getD k 0) = false) : mayN (a.take k) = true ∧ lenN (a.take k) < lenN a := by
  have he := may_enc ha
  obtain ⟨j, hj, e, hj1⟩ := enc_cut (sgn a) k (by rw [he]; exact h2) (by rw [he]; exact hm)
  rw [he] at e
  have hs : sgn (a.take k) = (sgn a).take j := by
    rw [e]
    have := sgn_enc ((sgn a).take j) [] (fun c hc => may_lt ha c (List.mem_of_mem_take hc))
    rw [List.append_nil, sgn_nil, List.append_nil] at this
    exact this
  have hn : mayN (a.take k) = true := by rw [mayN, hs]; exact nameS_take ha (hj1 h1)
  refine ⟨hn, ?_⟩
  rw [(lenN_le hn).1, (lenN_le ha).1, hs, List.length_take]
  omega

/-- The order of texts, by their signs. -/
def lexN : List Nat → List Nat → Bool
  | _, [] => false
  | [], _ :: _ => true
  | a :: x, b :: y => if a = b then lexN x y else decide (a < b)
theorem lex_nil (x : List Nat) : lexN x [] = false := by cases x <;> rfl
theorem lex_not_both : ∀ x y : List Nat, lexN x y = true → lexN y x = false
  | _, [], h => by rw [lex_nil] at h; cases h
  | [], _ :: _, _ => lex_nil _
  | a :: x, b :: y, h => by
    rw [lexN] at h ⊢
    by_cases e : a = b
    · subst e
      rw [if_pos rfl] at h ⊢
      exact lex_not_both x y h
    · rw [if_neg e, decide_eq_true_iff] at h
      rw [if_neg (fun h => e h.symm)]
      exact decide_eq_false (by omega)
theorem lex_total : ∀ x y : List Nat, x ≠ y → lexN x y = true ∨ lexN y x = true
  | [], [], h => absurd rfl h
  | [], _ :: _, _ => .inl rfl
  | _ :: _, [], _ => .inr rfl
  | a :: x, b :: y, h => by
    rw [lexN, lexN]
    by_cases e : a = b
    · subst e
      rw [if_pos rfl, if_pos rfl]
      exact lex_total x y fun e => h (by rw [e])
    · rw [if_neg e, if_neg (fun h => e h.symm), decide_eq_true_iff, decide_eq_true_iff]
      omega
theorem lex_self : ∀ x : List Nat, lexN x x = false
  | [] => rfl
  | a :: x => by rw [lexN, if_pos rfl]; exact lex_self x
theorem lex_trans : ∀ x y z : List Nat, lexN x y = true → lexN y z = true → lexN x z = true
  | _, _, [], _, h => by rw [lex_nil] at h; cases h
  | _, [], _ :: _, h, _ => by rw [lex_nil] at h; cases h
  | [], _ :: _, _ :: _, _, _ => rfl
  | a :: x, b :: y, c :: z, h1, h2 => by
    rw [lexN] at h1 h2 ⊢
    by_cases e1 : a = b
    · subst e1
      rw [if_pos rfl] at h1
      by_cases e2 : a = c
      · subst e2
        rw [if_pos rfl] at h2 ⊢
        exact lex_trans x y z h1 h2
      · rw [if_neg e2] at h2 ⊢
        exact h2
    · rw [if_neg e1, decide_eq_true_iff] at h1
      by_cases e2 : b = c
      · subst e2
        rw [if_neg e1]
        exact decide_eq_true h1
      · rw [if_neg e2, decide_eq_true_iff] at h2
        rw [if_neg (by omega)]
        exact decide_eq_true (by omega)
theorem lex_more : ∀ x y : List Nat, y ≠ [] → lexN x (x ++ y) = true
  | [], [], h => absurd rfl h
  | [], _ :: _, _ => rfl
  | a :: x, y, h => by rw [List.cons_append, lexN, if_pos rfl]; exact lex_more x y h

/-- Both names with a point between them, if both may be. -/
def joinN (a b : List Nat) : List Nat := if mayN a = true ∧ mayN b = true then a ++ 46 :: b else []
def dotN (s : List Nat) : Nat := s.findIdx (· == 46)
def canN (s : List Nat) : Bool := decide (dotN s < s.length) && mayN (s.take (dotN s)) && mayN (s.drop (dotN s + 1))
def splitN (s : List Nat) : List Nat × List Nat := if canN s = true then (s.take (dotN s), s.drop (dotN s + 1)) else ([], [])
theorem dot_first {a : List Nat} (h : 46 ∉ a) (b : List Nat) : dotN (a ++ 46 :: b) = a.length := by
  induction a with
  | nil => rfl
  | cons c a ih =>
    have hc : (c == 46) = false := beq_eq_false_iff_ne.2 fun e => h (by simp [e])
    rw [dotN, List.cons_append, List.findIdx_cons, hc]
    simp only [cond_false, List.length_cons]
    rw [← ih fun hm => h (by simp [hm])]
    rfl
theorem dot_there {s : List Nat} (h : dotN s < s.length) : s = s.take (dotN s) ++ 46 :: s.drop (dotN s + 1) := by
  have hg : s[dotN s] = 46 := beq_iff_eq.1 (List.findIdx_getElem (p := (· == 46)) (w := h))
  have h2 := List.drop_eq_getElem_cons h
  rw [hg] at h2
  rw [← h2, List.take_append_drop]
theorem split_join {a b : List Nat} (ha : mayN a = true) (hb : mayN b = true) : canN (a ++ 46 :: b) = true ∧ splitN (a ++ 46 :: b) = (a, b) := by
  have hd := dot_first (may_nodot ha) b
  have hc : canN (a ++ 46 :: b) = true := by
    rw [canN, hd, List.take_left, show (a ++ 46 :: b).drop (a.length + 1) = b from by rw [← List.drop_drop, List.drop_left]; rfl, ha, hb]
    simp
  refine ⟨hc, ?_⟩
  rw [splitN, if_pos hc, hd, List.take_left, show (a ++ 46 :: b).drop (a.length + 1) = b from by rw [← List.drop_drop, List.drop_left]; rfl]
theorem join_split {s : List Nat} (h : canN s = true) : mayN (splitN s).1 = true ∧ mayN (splitN s).2 = true ∧ s = (splitN s).1 ++ 46 :: (splitN s).2 ∧ joinN (splitN s).1 (splitN s).2 = s := by
  have h' := h
  rw [canN, Bool.and_eq_true, Bool.and_eq_true, decide_eq_true_iff] at h'
  have e := dot_there h'.1.1
  rw [splitN, if_pos h]
  refine ⟨h'.1.2, h'.2, e, ?_⟩
  rw [joinN, if_pos ⟨h'.1.2, h'.2⟩]
  exact e.symm
theorem join_nil : canN [] = false := rfl
theorem can_dots {s : List Nat} (h : canN s = true) : s.count 46 = 1 := by
  obtain ⟨h1, h2, e, _⟩ := join_split h
  rw [e, List.count_append, List.count_cons_self, List.count_eq_zero.2 (may_nodot h1), List.count_eq_zero.2 (may_nodot h2)]
theorem encL_len : ∀ cs : List Nat, (encL cs).length ≤ 2 * cs.length
  | [] => by simp [encL]
  | c :: cs => by
    have := encL_len cs
    rw [encL, List.length_append, List.length_cons]
    have : (encS c).length ≤ 2 := by unfold encS; split <;> simp
    omega
theorem may_size {s : ByteArray} (h : mayN (byt s) = true) : s.size ≤ 16 := by
  have h1 := encL_len (sgn (byt s))
  rw [may_enc h, byt_length] at h1
  have := (nameS_ok h).2.1
  omega
theorem byt_toList (s : ByteArray) : byt s = s.toList.map UInt8.toNat := by rw [byt, ByteArray.toList_eq]
theorem str_beq (s t : ByteArray) : (s.toList == t.toList) = decide (byt s = byt t) := by
  by_cases h : byt s = byt t
  · rw [byt_inj h]; simp
  · rw [decide_eq_false h, beq_eq_false_iff_ne]
    intro e
    exact h (by rw [byt_toList, byt_toList, e])
theorem str_empty (t : ByteArray) : t.toList.isEmpty = (byt t).isEmpty := by
  rw [byt_toList]; cases t.toList <;> rfl

end Go.Proofs.YtclbjbhpncpmbaaGreatDoor

/- Schemas as plain data: names are bytes. Whether one may be, its text, and that texts tell schemas apart. Over no program. No condition. -/
namespace Go.Proofs.YtclbjbhpncpmbaaGreatDoor

/-- A field: its name, its kind, where it leads. -/
abbrev Fld := List Nat × Int × List Nat
abbrev Typ := List Nat × List Fld
abbrev Sch := List Typ

/-- The first place where p holds; -1, if there is none. -/
def idxP {α : Type} (p : α → Bool) : List α → Int
  | [] => -1
  | a :: l => if p a = true then 0 else if idxP p l < 0 then -1 else idxP p l + 1
theorem idxP_low {α : Type} (p : α → Bool) : ∀ l : List α, -1 ≤ idxP p l
  | [] => by simp [idxP]
  | a :: l => by
    have := idxP_low p l
    rw [idxP]
    split
    · omega
    · split <;> omega
theorem idxP_iff {α : Type} (p : α → Bool) : ∀ (l : List α) (i : Nat), idxP p l = (i : Int) ↔ (∃ a, l[i]? = some a ∧ p a = true) ∧ ∀ j b, j < i → l[j]? = some b → p b = false
  | [], i => by simp [idxP]
  | a :: l, i => by
    rw [idxP]
    have hlow := idxP_low p l
    by_cases h : p a = true
    · rw [if_pos h]
      constructor
      · intro e
        obtain rfl : i = 0 := by omega
        exact ⟨⟨a, rfl, h⟩, fun j b hj => by omega⟩
      · rintro ⟨_, h2⟩
        by_cases hi : i = 0
        · subst hi; rfl
        · have := h2 0 a (by omega) rfl
          rw [this] at h; cases h
    · rw [if_neg h]
      have hf : p a = false := by simpa using h
      have ih := idxP_iff p l
      by_cases hn : idxP p l < 0
      · rw [if_pos hn]
        constructor
        · intro e; omega
        · rintro ⟨⟨b, hb, hpb⟩, h2⟩
          cases i with
          | zero => simp at hb; subst hb; rw [hpb] at hf; cases hf
          | succ i =>
            have := (ih i).2 ⟨⟨b, by simpa using hb, hpb⟩, fun j c hj hc => h2 (j + 1) c (by omega) (by simpa using hc)⟩
            omega
      · rw [if_neg hn]
        cases i with
        | zero =>
          constructor
          · intro e; omega
          · rintro ⟨⟨b, hb, hpb⟩, _⟩
            simp at hb; subst hb; rw [hpb] at hf; cases hf
        | succ i =>
          have := ih i
          constructor
          · intro e
            obtain ⟨⟨b, hb, hpb⟩, h2⟩ := this.1 (by omega)
            refine ⟨⟨b, by simpa using hb, hpb⟩, fun j c hj hc => ?_⟩
            cases j with
            | zero => simp at hc; subst hc; exact hf
            | succ j => exact h2 j c (by omega) (by simpa using hc)
          · rintro ⟨⟨b, hb, hpb⟩, h2⟩
            have := this.2 ⟨⟨b, by simpa using hb, hpb⟩, fun j c hj hc => h2 (j + 1) c (by omega) (by simpa using hc)⟩
            omega
theorem idxP_none {α : Type} (p : α → Bool) : ∀ (l : List α), idxP p l = -1 ↔ ∀ a ∈ l, p a = false
  | [] => by simp [idxP]
  | a :: l => by
    have hlow := idxP_low p l
    have ih := idxP_none p l
    rw [idxP]
    by_cases h : p a = true
    · rw [if_pos h]
      constructor
      · intro e; omega
      · intro h2; have := h2 a (by simp); rw [this] at h; cases h
    · rw [if_neg h]
      by_cases hn : idxP p l < 0
      · rw [if_pos hn]
        have := ih.1 (by omega)
        simp only [true_iff, List.mem_cons]
        rintro b (rfl | hb)
        · simpa using h
        · exact this b hb
      · rw [if_neg hn]
        constructor
        · intro e; omega
        · intro h2
          have := ih.2 fun b hb => h2 b (by simp [hb])
          omega
theorem idxP_ge {α : Type} (p : α → Bool) (l : List α) : 0 ≤ idxP p l ↔ ∃ a ∈ l, p a = true := by
  have h := idxP_none p l
  have hl := idxP_low p l
  constructor
  · intro h0
    apply Classical.byContradiction
    intro hn
    have := h.2 fun a ha => by
      cases hp : p a
      · rfl
      · exact absurd ⟨a, ha, hp⟩ hn
    omega
  · rintro ⟨a, ha, hp⟩
    apply Classical.byContradiction
    intro hn
    have := h.1 (by omega) a ha
    rw [this] at hp; cases hp
theorem idxP_lt {α : Type} (p : α → Bool) (l : List α) : idxP p l < (l.length : Int) := by
  by_cases h : 0 ≤ idxP p l
  · obtain ⟨i, hi⟩ := Int.eq_ofNat_of_zero_le h
    obtain ⟨⟨a, ha, _⟩, _⟩ := (idxP_iff p l i).1 hi
    have := (List.getElem?_eq_some_iff.1 ha).1
    omega
  · omega

def findS (s : Sch) (n : List Nat) : Int := idxP (fun t => decide (t.1 = n)) s
def fieldS (f : List Fld) (n : List Nat) : Int := idxP (fun x => decide (x.1 = n)) f
def leadS (s : Sch) (f : Fld) : Bool := if f.2.1 = 5 then decide (0 ≤ findS s f.2.2) else decide (0 ≤ f.2.1) && decide (f.2.1 < 6) && decide (f.2.2 = [])
/-- May the field at place i be? -/
def mayF (s : Sch) (fs : List Fld) (i : Nat) (f : Fld) : Bool := mayN f.1 && decide (fieldS fs f.1 = (i : Int)) && leadS s f
/-- All of a list, by place. -/
def allI {α : Type} (p : Nat → α → Bool) : Nat → List α → Bool
  | _, [] => true
  | i, a :: l => p i a && allI p (i + 1) l
theorem allI_iff {α : Type} (p : Nat → α → Bool) : ∀ (l : List α) (i : Nat), allI p i l = true ↔ ∀ j a, l[j]? = some a → p (i + j) a = true
  | [], i => by simp [allI]
  | a :: l, i => by
    rw [allI, Bool.and_eq_true, allI_iff p l]
    constructor
    · rintro ⟨h1, h2⟩ j b hb
      cases j with
      | zero => simp at hb; subst hb; exact h1
      | succ j => have := h2 j b (by simpa using hb); rwa [show i + (j + 1) = i + 1 + j by omega]
    · intro h
      refine ⟨h 0 a rfl, fun j b hb => ?_⟩
      have := h (j + 1) b (by simpa using hb)
      rwa [show i + 1 + j = i + (j + 1) by omega]
def mayFs (s : Sch) (fs : List Fld) : Bool := decide (fs.length ≤ 5) && allI (mayF s fs) 0 fs
def mayT (s : Sch) (i : Nat) (t : Typ) : Bool := mayN t.1 && decide (findS s t.1 = (i : Int)) && mayFs s t.2
def mayS (s : Sch) : Bool := decide (1 ≤ s.length) && decide (s.length ≤ 4) && allI (mayT s) 0 s

def kindT (k : Int) : List Nat := if k = 0 then [105, 56] else if k = 1 then [105, 49, 54] else if k = 2 then [105, 51, 50] else if k = 3 then [105, 54, 52] else if k = 4 then [116] else [42]
def fText (f : Fld) : List Nat := f.1 ++ 58 :: (kindT f.2.1 ++ f.2.2)
def fsText : List Fld → List Nat
  | [] => []
  | f :: r => match r with
    | [] => fText f
    | _ :: _ => fText f ++ 44 :: fsText r
def tText (t : Typ) : List Nat := t.1 ++ 123 :: (fsText t.2 ++ [125])
def sText : Sch → List Nat
  | [] => []
  | t :: s => tText t ++ sText s
def textS (s : Sch) : List Nat := if mayS s = true then sText s else []
theorem sText_append (a b : Sch) : sText (a ++ b) = sText a ++ sText b := by
  induction a with
  | nil => rfl
  | cons t a ih => rw [List.cons_append, sText, ih, sText, List.append_assoc]
theorem fsText_one (f : Fld) : fsText [f] = fText f := rfl
theorem fsText_two (f g : Fld) (r : List Fld) : fsText (f :: g :: r) = fText f ++ 44 :: fsText (g :: r) := rfl
theorem fsText_snoc : ∀ (l : List Fld) (f : Fld), l ≠ [] → fsText (l ++ [f]) = fsText l ++ 44 :: fText f
  | [], _, h => absurd rfl h
  | [g], f, _ => rfl
  | g :: g' :: r, f, _ => by
    have ih := fsText_snoc (g' :: r) f (by simp)
    rw [List.cons_append] at ih
    rw [List.cons_append, List.cons_append, fsText_two, ih, fsText_two, List.append_assoc]
    rfl

/-- What can be read at all: signs of the text stand in no name, kinds are there, names are not empty. -/
def okB (n : List Nat) : Prop := n ≠ [] ∧ ∀ c ∈ n, c ≠ 44 ∧ c ≠ 58 ∧ c ≠ 123 ∧ c ≠ 125
def goodF (f : Fld) : Prop := okB f.1 ∧ (0 ≤ f.2.1 ∧ f.2.1 < 6) ∧ (f.2.1 = 5 → okB f.2.2) ∧ (f.2.1 ≠ 5 → f.2.2 = [])
def goodT (t : Typ) : Prop := okB t.1 ∧ ∀ f ∈ t.2, goodF f
def goodS (s : Sch) : Prop := ∀ t ∈ s, goodT t
theorem may_okB {n : List Nat} (h : mayN n = true) : okB n := by
  refine ⟨may_ne h, fun c hc => ?_⟩
  by_cases hl : c < 128
  · have := may_low h hc hl
    simp only [okS, letS, digS, Bool.or_eq_true, Bool.and_eq_true, decide_eq_true_eq] at this
    omega
  · omega
theorem mayS_iff (s : Sch) : mayS s = true ↔ (1 ≤ s.length ∧ s.length ≤ 4) ∧ ∀ i t, s[i]? = some t → mayT s i t = true := by
  rw [mayS, Bool.and_eq_true, Bool.and_eq_true, decide_eq_true_iff, decide_eq_true_iff, allI_iff]
  simp only [Nat.zero_add]
theorem mayT_iff (s : Sch) (i : Nat) (t : Typ) : mayT s i t = true ↔ mayN t.1 = true ∧ findS s t.1 = (i : Int) ∧ t.2.length ≤ 5 ∧ ∀ j f, t.2[j]? = some f → mayF s t.2 j f = true := by
  rw [mayT, Bool.and_eq_true, Bool.and_eq_true, decide_eq_true_iff, mayFs, Bool.and_eq_true, decide_eq_true_iff, allI_iff]
  simp only [Nat.zero_add, and_assoc]
theorem mayF_iff (s : Sch) (fs : List Fld) (i : Nat) (f : Fld) : mayF s fs i f = true ↔ mayN f.1 = true ∧ fieldS fs f.1 = (i : Int) ∧ leadS s f = true := by
  rw [mayF, Bool.and_eq_true, Bool.and_eq_true, decide_eq_true_iff, and_assoc]
theorem findS_some {s : Sch} {n : List Nat} (h : 0 ≤ findS s n) : ∃ t ∈ s, t.1 = n := by
  obtain ⟨t, ht, hp⟩ := (idxP_ge _ s).1 h
  exact ⟨t, ht, by simpa using hp⟩
theorem findS_ge {s : Sch} {n : List Nat} {t : Typ} (ht : t ∈ s) (hn : t.1 = n) : 0 ≤ findS s n := (idxP_ge _ s).2 ⟨t, ht, by simpa using hn⟩
theorem mayS_good {s : Sch} (h : mayS s = true) : goodS s := by
  obtain ⟨_, h2⟩ := (mayS_iff s).1 h
  have hn : ∀ t ∈ s, mayN t.1 = true := fun t ht => by
    obtain ⟨i, hi⟩ := List.getElem?_of_mem ht
    exact ((mayT_iff s i t).1 (h2 i t hi)).1
  intro t ht
  obtain ⟨i, hi⟩ := List.getElem?_of_mem ht
  obtain ⟨h3, _, _, h4⟩ := (mayT_iff s i t).1 (h2 i t hi)
  refine ⟨may_okB h3, fun f hf => ?_⟩
  obtain ⟨j, hj⟩ := List.getElem?_of_mem hf
  obtain ⟨h5, _, h6⟩ := (mayF_iff s t.2 j f).1 (h4 j f hj)
  rw [leadS] at h6
  by_cases hk : f.2.1 = 5
  · rw [if_pos hk, decide_eq_true_iff] at h6
    obtain ⟨t', ht', hn'⟩ := findS_some h6
    exact ⟨may_okB h5, by omega, fun _ => by rw [← hn']; exact may_okB (hn t' ht'), fun h => absurd hk h⟩
  · rw [if_neg hk, Bool.and_eq_true, Bool.and_eq_true, decide_eq_true_iff, decide_eq_true_iff, decide_eq_true_iff] at h6
    exact ⟨may_okB h5, h6.1, fun h => absurd h hk, fun _ => h6.2⟩
theorem mayS_ne {s : Sch} (h : mayS s = true) : s ≠ [] := by
  rintro rfl
  cases h

/-- What stands ahead of the first m, and behind it, tell each other. -/
theorem cut_eq {m : Nat} : ∀ {a a' b b' : List Nat}, m ∉ a → m ∉ a' → a ++ m :: b = a' ++ m :: b' → a = a' ∧ b = b'
  | [], [], _, _, _, _, h => by simp at h; exact ⟨rfl, h⟩
  | [], c :: a', _, _, _, h', h => by simp at h; exact absurd h.1 (fun e => h' (by simp [e]))
  | c :: a, [], _, _, h', _, h => by simp at h; exact absurd h.1.symm (fun e => h' (by simp [e]))
  | c :: a, c' :: a', b, b', h1, h2, h => by
    simp at h
    obtain ⟨rfl, h⟩ := h
    obtain ⟨rfl, rfl⟩ := cut_eq (fun hm => h1 (by simp [hm])) (fun hm => h2 (by simp [hm])) h
    exact ⟨rfl, rfl⟩
theorem kindT_inj {k k' : Int} {a a' : List Nat} (hk : 0 ≤ k ∧ k < 6) (hk' : 0 ≤ k' ∧ k' < 6) (h : kindT k ++ a = kindT k' ++ a') : k = k' ∧ a = a' := by
  have h6 : ∀ k : Int, 0 ≤ k ∧ k < 6 → k = 0 ∨ k = 1 ∨ k = 2 ∨ k = 3 ∨ k = 4 ∨ k = 5 := fun k hk => by omega
  rcases h6 k hk with rfl | rfl | rfl | rfl | rfl | rfl <;> rcases h6 k' hk' with rfl | rfl | rfl | rfl | rfl | rfl <;> simp [kindT] at h ⊢ <;> exact h
theorem kindT_no (k : Int) : ∀ c ∈ kindT k, c ≠ 44 ∧ c ≠ 58 ∧ c ≠ 123 ∧ c ≠ 125 := by
  intro c hc
  unfold kindT at hc
  (repeat' split at hc) <;> simp at hc <;> omega
theorem goodF_to {f : Fld} (h : goodF f) : ∀ c ∈ f.2.2, c ≠ 44 ∧ c ≠ 58 ∧ c ≠ 123 ∧ c ≠ 125 := by
  by_cases hk : f.2.1 = 5
  · exact (h.2.2.1 hk).2
  · rw [h.2.2.2 hk]; simp
theorem fText_no {f : Fld} (h : goodF f) : ∀ c ∈ fText f, c ≠ 44 ∧ c ≠ 123 ∧ c ≠ 125 := by
  intro c hc
  rw [fText, List.mem_append, List.mem_cons, List.mem_append] at hc
  rcases hc with hc | hc | hc | hc
  · have := h.1.2 c hc; omega
  · omega
  · have := kindT_no _ c hc; omega
  · have := goodF_to h c hc; omega
theorem fText_ne (f : Fld) : fText f ≠ [] := by rw [fText]; simp
theorem fText_inj {f g : Fld} (hf : goodF f) (hg : goodF g) (h : fText f = fText g) : f = g := by
  obtain ⟨h1, h2⟩ := cut_eq (fun hm => (hf.1.2 _ hm).2.1 rfl) (fun hm => (hg.1.2 _ hm).2.1 rfl) h
  obtain ⟨h3, h4⟩ := kindT_inj hf.2.1 hg.2.1 h2
  exact Prod.ext h1 (Prod.ext h3 h4)
theorem fsText_no : ∀ {l : List Fld}, (∀ f ∈ l, goodF f) → ∀ c ∈ fsText l, c ≠ 123 ∧ c ≠ 125
  | [], _, c, hc => by simp [fsText] at hc
  | [f], h, c, hc => (fText_no (h f (by simp)) c hc).2
  | f :: g :: r, h, c, hc => by
    rw [fsText_two, List.mem_append, List.mem_cons] at hc
    rcases hc with hc | hc | hc
    · exact (fText_no (h f (by simp)) c hc).2
    · omega
    · exact fsText_no (fun x hx => h x (by simp at hx ⊢; right; exact hx)) c hc
theorem fsText_inj : ∀ {l m : List Fld}, (∀ f ∈ l, goodF f) → (∀ f ∈ m, goodF f) → fsText l = fsText m → l = m
  | [], [], _, _, _ => rfl
  | [], [g], _, _, h => absurd h.symm (fText_ne g)
  | [], g :: g' :: r, _, _, h => by simp [fsText] at h
  | [f], [], _, _, h => absurd h (fText_ne f)
  | f :: f' :: r, [], _, _, h => by simp [fsText] at h
  | [f], [g], h1, h2, h => by rw [fText_inj (h1 f (by simp)) (h2 g (by simp)) h]
  | [f], g :: g' :: r, h1, h2, h => by
    rw [fsText_one, fsText_two] at h
    exact absurd rfl (fText_no (h1 f (by simp)) 44 (by rw [h]; simp)).1
  | f :: f' :: r, [g], h1, h2, h => by
    rw [fsText_one, fsText_two] at h
    exact absurd rfl (fText_no (h2 g (by simp)) 44 (by rw [← h]; simp)).1
  | f :: f' :: r, g :: g' :: q, h1, h2, h => by
    rw [fsText_two, fsText_two] at h
    obtain ⟨e1, e2⟩ := cut_eq (fun hm => (fText_no (h1 f (by simp)) 44 hm).1 rfl) (fun hm => (fText_no (h2 g (by simp)) 44 hm).1 rfl) h
    rw [fText_inj (h1 f (by simp)) (h2 g (by simp)) e1, fsText_inj (fun x hx => h1 x (List.mem_cons_of_mem _ hx)) (fun x hx => h2 x (List.mem_cons_of_mem _ hx)) e2]
theorem tText_ne (t : Typ) (r : List Nat) : tText t ++ r ≠ [] := by rw [tText]; simp
/-- A type's text, whatever stands behind it, tells the type, and that. -/
theorem tText_inj {t u : Typ} {a b : List Nat} (ht : goodT t) (hu : goodT u) (h : tText t ++ a = tText u ++ b) : t = u ∧ a = b := by
  rw [tText, tText, List.append_assoc, List.append_assoc, List.cons_append, List.cons_append, List.append_assoc, List.append_assoc] at h
  obtain ⟨e1, h⟩ := cut_eq (fun hm => (ht.1.2 _ hm).2.2.1 rfl) (fun hm => (hu.1.2 _ hm).2.2.1 rfl) h
  rw [List.singleton_append, List.singleton_append] at h
  obtain ⟨e2, h⟩ := cut_eq (fun hm => (fsText_no ht.2 _ hm).2 rfl) (fun hm => (fsText_no hu.2 _ hm).2 rfl) h
  exact ⟨Prod.ext e1 (fsText_inj ht.2 hu.2 e2), h⟩
theorem sText_inj : ∀ {s r : Sch}, goodS s → goodS r → sText s = sText r → s = r
  | [], [], _, _, _ => rfl
  | [], u :: r, _, _, h => absurd h.symm (tText_ne u _)
  | t :: s, [], _, _, h => absurd h (tText_ne t _)
  | t :: s, u :: r, h1, h2, h => by
    obtain ⟨rfl, h3⟩ := tText_inj (h1 t (by simp)) (h2 u (by simp)) h
    rw [sText_inj (s := s) (r := r) (fun x hx => h1 x (by simp [hx])) (fun x hx => h2 x (by simp [hx])) h3]
theorem sText_ne {s : Sch} (h : s ≠ []) : sText s ≠ [] := by
  cases s with
  | nil => exact absurd rfl h
  | cons t s => exact tText_ne t _
theorem textS_may {s : Sch} (h : mayS s = true) : textS s = sText s := by rw [textS, if_pos h]
theorem textS_not {s : Sch} (h : mayS s = false) : textS s = [] := by rw [textS, if_neg (by simp [h])]
theorem textS_inj {s r : Sch} (hs : mayS s = true) (hr : mayS r = true) (h : textS s = textS r) : s = r := by
  rw [textS_may hs, textS_may hr] at h
  exact sText_inj (mayS_good hs) (mayS_good hr) h

/-- As many openings as closings, and a closing at the end. -/
theorem tText_count {t : Typ} (h : goodT t) : (tText t).count 123 = 1 ∧ (tText t).count 125 = 1 := by
  have a1 : t.1.count 123 = 0 := List.count_eq_zero.2 fun hm => (h.1.2 _ hm).2.2.1 rfl
  have a2 : t.1.count 125 = 0 := List.count_eq_zero.2 fun hm => (h.1.2 _ hm).2.2.2 rfl
  have a3 : (fsText t.2).count 123 = 0 := List.count_eq_zero.2 fun hm => (fsText_no h.2 _ hm).1 rfl
  have a4 : (fsText t.2).count 125 = 0 := List.count_eq_zero.2 fun hm => (fsText_no h.2 _ hm).2 rfl
  constructor <;> simp [tText, List.count_append, a1, a2, a3, a4]
theorem sText_count : ∀ {s : Sch}, goodS s → (sText s).count 123 = s.length ∧ (sText s).count 125 = s.length
  | [], _ => ⟨rfl, rfl⟩
  | t :: s, h => by
    obtain ⟨h1, h2⟩ := tText_count (h t (by simp))
    obtain ⟨h3, h4⟩ := sText_count (s := s) fun x hx => h x (by simp [hx])
    rw [sText, List.count_append, List.count_append, h1, h2, h3, h4, List.length_cons]
    omega
theorem sText_last : ∀ {s : Sch}, s ≠ [] → ∃ a, sText s = a ++ [125]
  | [], h => absurd rfl h
  | [t], _ => ⟨t.1 ++ 123 :: fsText t.2, by simp [sText, tText]⟩
  | t :: u :: s, _ => by
    obtain ⟨a, ha⟩ := sText_last (s := u :: s) (by simp)
    exact ⟨tText t ++ a, by rw [sText, ha, List.append_assoc]⟩
end Go.Proofs.YtclbjbhpncpmbaaGreatDoor

/- The texts VlKind, GrPlain, GrComePlain, GrActs in one; what each proves, and its conditions, stands before it. -/
/- Kinds of fields, and what fits them, on plain data. No condition. -/
namespace Go.Proofs.YtclbjbhpncpmbaaGreatDoor

/-- A value: its number, its text's bytes, where it leads. -/
abbrev Vl := Int × List Nat × Int
abbrev vz : Vl := (0, [], 0)
def fitsV (k : Int) (v : Vl) : Bool :=
  if k = 0 then decide (-128 ≤ v.1 ∧ v.1 ≤ 127 ∧ v.2.1 = [] ∧ v.2.2 = 0)
  else if k = 1 then decide (-32768 ≤ v.1 ∧ v.1 ≤ 32767 ∧ v.2.1 = [] ∧ v.2.2 = 0)
  else if k = 2 then decide (-2147483648 ≤ v.1 ∧ v.1 ≤ 2147483647 ∧ v.2.1 = [] ∧ v.2.2 = 0)
  else if k = 3 then decide (v.2.1 = [] ∧ v.2.2 = 0)
  else if k = 4 then decide (v.2.1.length ≤ 12 ∧ v.1 = 0 ∧ v.2.2 = 0)
  else if k = 5 then decide (-1 ≤ v.2.2 ∧ v.2.2 ≤ 1073741824 ∧ v.1 = 0 ∧ v.2.1 = [])
  else false
def zeroV (k : Int) : Vl := if k = 5 then (0, [], -1) else vz
/-- A number of 64 bits, and bytes. -/
def OkV (v : Vl) : Prop := (-9223372036854775808 ≤ v.1 ∧ v.1 ≤ 9223372036854775807) ∧ ∀ x ∈ v.2.1, x < 256

theorem vl_fits_0 {v : Vl} : fitsV 0 v = decide (-128 ≤ v.1 ∧ v.1 ≤ 127 ∧ v.2.1 = [] ∧ v.2.2 = 0) := rfl
theorem vl_fits_1 {v : Vl} : fitsV 1 v = decide (-32768 ≤ v.1 ∧ v.1 ≤ 32767 ∧ v.2.1 = [] ∧ v.2.2 = 0) := rfl
theorem vl_fits_2 {v : Vl} : fitsV 2 v = decide (-2147483648 ≤ v.1 ∧ v.1 ≤ 2147483647 ∧ v.2.1 = [] ∧ v.2.2 = 0) := rfl
theorem vl_fits_3 {v : Vl} : fitsV 3 v = decide (v.2.1 = [] ∧ v.2.2 = 0) := rfl
theorem vl_fits_4 {v : Vl} : fitsV 4 v = decide (v.2.1.length ≤ 12 ∧ v.1 = 0 ∧ v.2.2 = 0) := rfl
theorem vl_fits_5 {v : Vl} : fitsV 5 v = decide (-1 ≤ v.2.2 ∧ v.2.2 ≤ 1073741824 ∧ v.1 = 0 ∧ v.2.1 = []) := rfl
theorem vl_fits_x {k : Int} {v : Vl} (h : ¬ (0 ≤ k ∧ k ≤ 5)) : fitsV k v = false := by
  rw [fitsV, if_neg (by omega), if_neg (by omega), if_neg (by omega), if_neg (by omega), if_neg (by omega), if_neg (by omega)]
/-- The vl_kinds, one by one. -/
theorem vl_kinds (k : Int) : k = 0 ∨ k = 1 ∨ k = 2 ∨ k = 3 ∨ k = 4 ∨ k = 5 ∨ ¬ (0 ≤ k ∧ k ≤ 5) := by omega
/-- What fits a number's kind is a number alone. -/
theorem vl_fits_num {k : Int} {v : Vl} (h4 : k ≠ 4) (h5 : k ≠ 5) (h : fitsV k v = true) : v.2.1 = [] ∧ v.2.2 = 0 := by
  rcases vl_kinds k with rfl | rfl | rfl | rfl | rfl | rfl | hk
  · rw [vl_fits_0] at h; exact (of_decide_eq_true h).2.2
  · rw [vl_fits_1] at h; exact (of_decide_eq_true h).2.2
  · rw [vl_fits_2] at h; exact (of_decide_eq_true h).2.2
  · rw [vl_fits_3] at h; exact of_decide_eq_true h
  · exact absurd rfl h4
  · exact absurd rfl h5
  · rw [vl_fits_x hk] at h; cases h
theorem vl_fits_zero (k : Int) : fitsV k (zeroV k) = decide (0 ≤ k ∧ k ≤ 5) := by
  rcases vl_kinds k with rfl | rfl | rfl | rfl | rfl | rfl | hk
  · decide
  · decide
  · decide
  · decide
  · decide
  · decide
  · rw [vl_fits_x hk, decide_eq_false hk]
end Go.Proofs.YtclbjbhpncpmbaaGreatDoor

/- Graphs, on plain data: which may be, where an object stands, what is come to. No condition. -/
namespace Go.Proofs.YtclbjbhpncpmbaaGreatDoor

/-- An object: its id, its type's place, its values. -/
abbrev Ob := Int × Int × List Vl
/-- A graph: its schema, its objects, its roots. -/
abbrev Gr := Sch × List Ob × List Int
instance decVl : DecidableEq Vl := inferInstance
instance decVls : DecidableEq (List Vl) := inferInstance
instance decObT : DecidableEq (Int × List Vl) := inferInstance
instance decOb : DecidableEq Ob := inferInstance
instance decObs : DecidableEq (List Ob) := inferInstance
instance decGrT : DecidableEq (List Ob × List Int) := inferInstance
instance decGr : DecidableEq Gr := fun a b => if h : a.1 = b.1 then (if k : a.2 = b.2 then isTrue (Prod.ext h k) else isFalse fun e => k (by rw [e])) else isFalse fun e => h (by rw [e])
def findG (os : List Ob) (id : Int) : Int := idxP (fun o => decide (o.1 = id)) os
/-- The type's place of the object of an id. -/
def typG (os : List Ob) (id : Int) : Int := (os.getD (findG os id).toNat (0, 0, [])).2.1
def haveG (g : Gr) (f : Fld) (v : Vl) : Bool :=
  fitsV f.2.1 v && (decide (f.2.1 ≠ 5) || decide (v.2.2 = -1) || (decide (findG g.2.1 v.2.2 ≠ -1) && decide (typG g.2.1 v.2.2 = findS g.1 f.2.2)))
/-- Two lists of one length, place by place. -/
def all2 {α β : Type} (p : α → β → Bool) : List α → List β → Bool
  | [], [] => true
  | a :: l, b :: m => p a b && all2 p l m
  | _, _ => false
def fldsG (s : Sch) (t : Int) : List Fld := (s.getD t.toNat ([], [])).2
def mayO (g : Gr) (o : Ob) : Bool := (decide (0 ≤ o.2.1) && decide (o.2.1 < (g.1.length : Int))) && all2 (haveG g) (fldsG g.1 o.2.1) o.2.2
def riseG (g : Gr) : Int → List Ob → Bool
  | _, [] => true
  | last, o :: r => (decide (last < o.1) && decide (o.1 ≤ 1073741824) && mayO g o) && riseG g o.1 r
def mayOs (g : Gr) : Bool := decide (g.2.1.length ≤ 8) && riseG g (-1) g.2.1
def rootG (os : List Ob) (id : Int) : Bool := decide (id = -1) || decide (findG os id ≠ -1)
def mayRs (g : Gr) : Bool := decide (g.2.2.length ≤ 3) && g.2.2.all (rootG g.2.1)
def mayG (g : Gr) : Bool := mayS g.1 && mayOs g && mayRs g

theorem all2_iff {α β : Type} {p : α → β → Bool} : ∀ {l : List α} {m : List β}, all2 p l m = true ↔ l.length = m.length ∧ ∀ (i : Nat) a b, l[i]? = some a → m[i]? = some b → p a b = true
  | [], [] => by simp [all2]
  | [], b :: m => by simp [all2]
  | a :: l, [] => by simp [all2]
  | a :: l, b :: m => by
    rw [all2, Bool.and_eq_true, all2_iff]
    constructor
    · rintro ⟨h1, h2, h3⟩
      refine ⟨by simp [h2], fun i x y hx hy => ?_⟩
      cases i with
      | zero => simp at hx hy; subst hx hy; exact h1
      | succ i => simp at hx hy; exact h3 i x y hx hy
    · rintro ⟨h1, h2⟩
      exact ⟨h2 0 a b rfl rfl, by simpa using h1, fun i x y hx hy => h2 (i + 1) x y (by simpa using hx) (by simpa using hy)⟩
/-- From a place on. -/
theorem all2_at {α β : Type} {p : α → β → Bool} {l : List α} {m : List β} {i : Nat} {a : α} {b : β} (hl : l[i]? = some a) (hm : m[i]? = some b) : all2 p (l.drop i) (m.drop i) = (p a b && all2 p (l.drop (i + 1)) (m.drop (i + 1))) := by
  obtain ⟨h1, e1⟩ := List.getElem?_eq_some_iff.1 hl
  obtain ⟨h2, e2⟩ := List.getElem?_eq_some_iff.1 hm
  rw [List.drop_eq_getElem_cons h1, List.drop_eq_getElem_cons h2, all2, e1, e2]
theorem all2_end {α β : Type} {p : α → β → Bool} {l : List α} {m : List β} {i : Nat} (hl : l.length ≤ i) (hm : m.length ≤ i) : all2 p (l.drop i) (m.drop i) = true := by
  rw [List.drop_of_length_le hl, List.drop_of_length_le hm]; rfl
theorem all2_ne {α β : Type} {p : α → β → Bool} {l : List α} {m : List β} (h : l.length ≠ m.length) : all2 p l m = false := by
  cases e : all2 p l m
  · rfl
  · exact absurd (all2_iff.1 e).1 h
theorem riseG_at {g : Gr} {last : Int} {l : List Ob} {i : Nat} {o : Ob} (hl : l[i]? = some o) : riseG g last (l.drop i) = ((decide (last < o.1) && decide (o.1 ≤ 1073741824) && mayO g o) && riseG g o.1 (l.drop (i + 1))) := by
  obtain ⟨h1, e1⟩ := List.getElem?_eq_some_iff.1 hl
  rw [List.drop_eq_getElem_cons h1, riseG, e1]
theorem riseG_end {g : Gr} {last : Int} {l : List Ob} {i : Nat} (hl : l.length ≤ i) : riseG g last (l.drop i) = true := by
  rw [List.drop_of_length_le hl]; rfl
theorem all_at {α : Type} {p : α → Bool} {l : List α} {i : Nat} {a : α} (hl : l[i]? = some a) : (l.drop i).all p = (p a && (l.drop (i + 1)).all p) := by
  obtain ⟨h1, e1⟩ := List.getElem?_eq_some_iff.1 hl
  rw [List.drop_eq_getElem_cons h1, List.all_cons, e1]
theorem all_end {α : Type} {p : α → Bool} {l : List α} {i : Nat} (hl : l.length ≤ i) : (l.drop i).all p = true := by
  rw [List.drop_of_length_le hl]; rfl
/-- The object that is found. -/
theorem findG_at {os : List Ob} {id : Int} (h : findG os id ≠ -1) : ∃ i o, findG os id = ((i : Nat) : Int) ∧ os[i]? = some o ∧ o.1 = id ∧ typG os id = o.2.1 := by
  have h0 := idxP_low (fun o : Ob => decide (o.1 = id)) os
  obtain ⟨i, hi⟩ : ∃ i : Nat, findG os id = (i : Int) := ⟨(findG os id).toNat, by unfold findG at *; omega⟩
  obtain ⟨⟨o, ho, hp⟩, _⟩ := (idxP_iff _ os i).1 hi
  refine ⟨i, o, hi, ho, of_decide_eq_true hp, ?_⟩
  rw [typG, hi, Int.toNat_natCast, List.getD_eq_getElem?_getD, ho]
  rfl
theorem findG_low (os : List Ob) (id : Int) : -1 ≤ findG os id := idxP_low _ _
theorem findG_lt (os : List Ob) (id : Int) : findG os id < (os.length : Int) := idxP_lt _ _
theorem findG_mem {os : List Ob} {id : Int} : findG os id ≠ -1 ↔ ∃ o ∈ os, o.1 = id := by
  rw [Ne, findG, idxP_none]
  constructor
  · intro h
    rcases Classical.em (∃ o ∈ os, o.1 = id) with h1 | h1
    · exact h1
    · exact absurd (fun a ha => decide_eq_false fun e => h1 ⟨a, ha, e⟩) h
  · rintro ⟨o, ho, e⟩ h
    have := h o ho
    simp [e] at this
theorem fldsG_at {s : Sch} {t : Int} {i : Nat} {x : Typ} (ht : t = (i : Int)) (hx : s[i]? = some x) : fldsG s t = x.2 := by
  rw [fldsG, ht, Int.toNat_natCast, List.getD_eq_getElem?_getD, hx]; rfl
end Go.Proofs.YtclbjbhpncpmbaaGreatDoor

/- What is come to, on plain data: what a walk through the objects leaves. No condition. -/
namespace Go.Proofs.YtclbjbhpncpmbaaGreatDoor

/-- Where an object's Refs lead. -/
def refsG (s : Sch) (o : Ob) : List Int := ((fldsG s o.2.1).zip o.2.2).filterMap fun p => if p.1.2.1 = 5 ∧ p.2.2.2 ≠ -1 then some p.2.2.2 else none
theorem refsG_mem {s : Sch} {o : Ob} {r : Int} : r ∈ refsG s o ↔ ∃ (k : Nat) (f : Fld) (v : Vl), (fldsG s o.2.1)[k]? = some f ∧ o.2.2[k]? = some v ∧ f.2.1 = 5 ∧ v.2.2 ≠ -1 ∧ v.2.2 = r := by
  rw [refsG, List.mem_filterMap]
  constructor
  · rintro ⟨⟨f, v⟩, hp, hr⟩
    obtain ⟨k, hk⟩ := List.getElem?_of_mem hp
    rw [List.getElem?_zip_eq_some] at hk
    simp only at hr
    split at hr
    · rename_i hc
      injection hr with hr
      exact ⟨k, f, v, hk.1, hk.2, hc.1, hc.2, hr⟩
    · cases hr
  · rintro ⟨k, f, v, h1, h2, h3, h4, h5⟩
    refine ⟨(f, v), List.mem_of_getElem? (List.getElem?_zip_eq_some.2 ⟨h1, h2⟩), ?_⟩
    simp only [h3, h5, true_and]
    rw [if_pos (by rw [← h5]; exact h4)]
/-- What one comes to from an object. -/
inductive From (g : Gr) (id : Int) : Int → Prop
  | here : From g id id
  | step {o : Ob} {r : Int} : From g id o.1 → o ∈ g.2.1 → r ∈ refsG g.1 o → From g id r
/-- What is come to. -/
def ComeG (g : Gr) (x : Int) : Prop := ∃ id ∈ g.2.2, id ≠ -1 ∧ From g id x
theorem From.trans {g : Gr} {a b x : Int} (h : From g a b) (k : From g b x) : From g a x := by
  induction k with
  | here => exact h
  | step _ ho hr ih => exact .step ih ho hr
/-- M' is M, and all that one comes to from id, but what is come to by way of M alone. -/
structure Dfs (g : Gr) (M M' : List Int) (id : Int) : Prop where
  more : ∀ x ∈ M, x ∈ M'
  this : id ≠ -1 → id ∈ M'
  only : ∀ x ∈ M', x ∉ M → id ≠ -1 ∧ From g id x
  shut : ∀ x ∈ M', x ∉ M → ∀ o ∈ g.2.1, o.1 = x → ∀ r ∈ refsG g.1 o, r ∈ M'
theorem Dfs.skip {g : Gr} {M : List Int} {id : Int} (h : id = -1 ∨ id ∈ M) : Dfs g M M id :=
  ⟨fun _ h => h, fun hn => h.resolve_left hn, fun _ h h' => absurd h h', fun _ h h' => absurd h h'⟩
/-- So far, on the way through an object's fields. -/
structure DfsI (g : Gr) (M Mi : List Int) (o : Ob) (i : Nat) : Prop where
  more : ∀ x ∈ M ++ [o.1], x ∈ Mi
  only : ∀ x ∈ Mi, x ∉ M ++ [o.1] → From g o.1 x
  shut : ∀ x ∈ Mi, x ∉ M ++ [o.1] → ∀ p ∈ g.2.1, p.1 = x → ∀ r ∈ refsG g.1 p, r ∈ Mi
  refs : ∀ (k : Nat) (f : Fld) (v : Vl), k < i → (fldsG g.1 o.2.1)[k]? = some f → o.2.2[k]? = some v → f.2.1 = 5 → v.2.2 ≠ -1 → v.2.2 ∈ Mi
theorem DfsI.start (g : Gr) (M : List Int) (o : Ob) : DfsI g M (M ++ [o.1]) o 0 :=
  ⟨fun _ h => h, fun _ h h' => absurd h h', fun _ h h' => absurd h h', fun _ _ _ hk => absurd hk (Nat.not_lt_zero _)⟩
/-- A field that is no Ref. -/
theorem DfsI.pass {g : Gr} {M Mi : List Int} {o : Ob} {i : Nat} {f : Fld} (h : DfsI g M Mi o i) (hf : (fldsG g.1 o.2.1)[i]? = some f) (h5 : f.2.1 ≠ 5) : DfsI g M Mi o (i + 1) :=
  ⟨h.more, h.only, h.shut, fun k f' v hk hf' hv h5' hr => by
    by_cases hki : k < i
    · exact h.refs k f' v hki hf' hv h5' hr
    · obtain rfl : k = i := by omega
      rw [hf] at hf'
      injection hf' with e
      subst e
      exact absurd h5' h5⟩
/-- A Ref that was gone along. -/
theorem DfsI.step {g : Gr} {M Mi Mj : List Int} {o : Ob} {i : Nat} {f : Fld} {v : Vl} (h : DfsI g M Mi o i) (ho : o ∈ g.2.1) (hf : (fldsG g.1 o.2.1)[i]? = some f) (hv : o.2.2[i]? = some v) (h5 : f.2.1 = 5) (hd : Dfs g Mi Mj v.2.2) : DfsI g M Mj o (i + 1) := by
  refine ⟨fun x hx => hd.more x (h.more x hx), fun x hx hn => ?_, fun x hx hn p hp hpx r hr => ?_, fun k f' v' hk hf' hv' h5' hr => ?_⟩
  · by_cases hi : x ∈ Mi
    · exact h.only x hi hn
    · obtain ⟨h1, h2⟩ := hd.only x hx hi
      exact (From.step .here ho (refsG_mem.2 ⟨i, f, v, hf, hv, h5, h1, rfl⟩)).trans h2
  · by_cases hi : x ∈ Mi
    · exact hd.more r (h.shut x hi hn p hp hpx r hr)
    · exact hd.shut x hx hi p hp hpx r hr
  · by_cases hki : k < i
    · exact hd.more _ (h.refs k f' v' hki hf' hv' h5' hr)
    · obtain rfl : k = i := by omega
      rw [hv] at hv'
      injection hv' with e
      subst e
      exact hd.this hr
/-- All fields: where ids tell objects apart. -/
theorem DfsI.all {g : Gr} {M Mi : List Int} {o : Ob} {i : Nat} (h : DfsI g M Mi o i) (ho : o ∈ g.2.1) (hi : o.2.2.length ≤ i) (hn : o.1 ≠ -1) (hu : ∀ p ∈ g.2.1, p.1 = o.1 → p = o) : Dfs g M Mi o.1 := by
  refine ⟨fun x hx => h.more x (List.mem_append_left _ hx), fun _ => h.more _ (by simp), fun x hx hm => ⟨hn, ?_⟩, fun x hx hm p hp hpx r hr => ?_⟩
  · by_cases he : x = o.1
    · subst he; exact .here
    · exact h.only x hx (by simp [hm, he])
  · by_cases he : x = o.1
    · subst he
      obtain rfl := hu p hp hpx
      obtain ⟨k, f, v, h1, h2, h3, h4, h5⟩ := refsG_mem.1 hr
      rw [← h5]
      exact h.refs k f v (Nat.lt_of_lt_of_le (List.getElem?_eq_some_iff.1 h2).1 hi) h1 h2 h3 h4
    · exact h.shut x hx (by simp [hm, he]) p hp hpx r hr
/-- How many objects were not come to. -/
def cntG (os : List Ob) (M : List Int) : Nat := (os.filter fun o => decide (o.1 ∉ M)).length
theorem cntG_cons (p : Ob) (os : List Ob) (M : List Int) : cntG (p :: os) M = (if p.1 ∈ M then 0 else 1) + cntG os M := by
  unfold cntG
  rw [List.filter_cons]
  by_cases h : p.1 ∈ M
  · simp [h]
  · simp [h]; omega
theorem cntG_le {os : List Ob} {M M' : List Int} (h : ∀ x ∈ M, x ∈ M') : cntG os M' ≤ cntG os M := by
  induction os with
  | nil => simp [cntG]
  | cons o os ih =>
    rw [cntG_cons, cntG_cons]
    by_cases h1 : o.1 ∈ M
    · rw [if_pos h1, if_pos (h _ h1)]; omega
    · rw [if_neg h1]; split <;> omega
theorem cntG_lt {os : List Ob} {M : List Int} {o : Ob} (ho : o ∈ os) (hn : o.1 ∉ M) : cntG os (M ++ [o.1]) + 1 ≤ cntG os M := by
  induction os with
  | nil => simp at ho
  | cons p os ih =>
    have hle := cntG_le (os := os) (M := M) (M' := M ++ [o.1]) fun x hx => List.mem_append_left _ hx
    rw [cntG_cons, cntG_cons]
    rcases List.mem_cons.1 ho with h | h
    · subst h
      rw [if_pos (by simp), if_neg hn]; omega
    · have := ih h
      by_cases h3 : p.1 ∈ M
      · rw [if_pos (List.mem_append_left _ h3), if_pos h3]; omega
      · rw [if_neg h3]; split <;> omega
/-- Through all roots. -/
structure DfsR (g : Gr) (M : List Int) (i : Nat) : Prop where
  only : ∀ x ∈ M, ComeG g x
  shut : ∀ x ∈ M, ∀ o ∈ g.2.1, o.1 = x → ∀ r ∈ refsG g.1 o, r ∈ M
  roots : ∀ (k : Nat) (r : Int), k < i → g.2.2[k]? = some r → r ≠ -1 → r ∈ M
theorem DfsR.start (g : Gr) : DfsR g [] 0 := ⟨fun _ h => by simp at h, fun _ h => by simp at h, fun _ _ h => absurd h (Nat.not_lt_zero _)⟩
theorem DfsR.step {g : Gr} {M M' : List Int} {i : Nat} {r : Int} (h : DfsR g M i) (hr : g.2.2[i]? = some r) (hd : Dfs g M M' r) : DfsR g M' (i + 1) := by
  refine ⟨fun x hx => ?_, fun x hx o ho hox s hs => ?_, fun k s hk hs hn => ?_⟩
  · by_cases hm : x ∈ M
    · exact h.only x hm
    · obtain ⟨h1, h2⟩ := hd.only x hx hm
      exact ⟨r, List.mem_of_getElem? hr, h1, h2⟩
  · by_cases hm : x ∈ M
    · exact hd.more s (h.shut x hm o ho hox s hs)
    · exact hd.shut x hx hm o ho hox s hs
  · by_cases hki : k < i
    · exact hd.more s (h.roots k s hki hs hn)
    · obtain rfl : k = i := by omega
      rw [hr] at hs
      injection hs with e
      subst e
      exact hd.this hn
theorem DfsR.all {g : Gr} {M : List Int} {i : Nat} (h : DfsR g M i) (hi : g.2.2.length ≤ i) (x : Int) : x ∈ M ↔ ComeG g x := by
  refine ⟨h.only x, ?_⟩
  rintro ⟨id, hid, hn, hf⟩
  induction hf with
  | here =>
    obtain ⟨k, hk⟩ := List.getElem?_of_mem hid
    exact h.roots k _ (Nat.lt_of_lt_of_le (List.getElem?_eq_some_iff.1 hk).1 hi) hk hn
  | step _ ho hr ih => exact h.shut _ ih _ ho rfl _ hr
/-- Of a graph that may be: its objects. -/
theorem riseG_mem {g : Gr} : ∀ {last : Int} {l : List Ob}, riseG g last l = true → ∀ o ∈ l, last < o.1 ∧ o.1 ≤ 1073741824 ∧ mayO g o = true
  | _, [], _, o, ho => by simp at ho
  | last, p :: r, h, o, ho => by
    rw [riseG, Bool.and_eq_true, Bool.and_eq_true, Bool.and_eq_true, decide_eq_true_eq, decide_eq_true_eq] at h
    obtain ⟨⟨⟨h1, h2⟩, h3⟩, h4⟩ := h
    rcases List.mem_cons.1 ho with e | ho
    · subst e; exact ⟨h1, h2, h3⟩
    · obtain ⟨h5, h6, h7⟩ := riseG_mem h4 o ho
      exact ⟨by omega, h6, h7⟩
theorem riseG_sorted {g : Gr} : ∀ {last : Int} {l : List Ob}, riseG g last l = true → l.Pairwise fun o p => o.1 < p.1
  | _, [], _ => List.Pairwise.nil
  | last, p :: r, h => by
    rw [riseG, Bool.and_eq_true] at h
    exact List.Pairwise.cons (fun o ho => (riseG_mem h.2 o ho).1) (riseG_sorted h.2)
theorem sorted_apart {l : List Ob} (h : l.Pairwise fun o p => o.1 < p.1) {o p : Ob} (ho : o ∈ l) (hp : p ∈ l) (e : o.1 = p.1) : o = p := by
  induction l with
  | nil => simp at ho
  | cons q l ih =>
    rw [List.pairwise_cons] at h
    rcases List.mem_cons.1 ho with e1 | ho1
    · rcases List.mem_cons.1 hp with e2 | hp1
      · rw [e1, e2]
      · have := h.1 p hp1; rw [e1] at e; omega
    · rcases List.mem_cons.1 hp with e2 | hp1
      · have := h.1 o ho1; rw [e2] at e; omega
      · exact ih h.2 ho1 hp1
structure MayObj (g : Gr) (o : Ob) : Prop where
  id0 : 0 ≤ o.1
  id1 : o.1 ≤ 1073741824
  t0 : 0 ≤ o.2.1
  t1 : o.2.1 < (g.1.length : Int)
  len : (fldsG g.1 o.2.1).length = o.2.2.length
  have' : ∀ (k : Nat) f v, (fldsG g.1 o.2.1)[k]? = some f → o.2.2[k]? = some v → haveG g f v = true
theorem mayG_parts {g : Gr} (h : mayG g = true) : mayS g.1 = true ∧ g.2.1.length ≤ 8 ∧ riseG g (-1) g.2.1 = true ∧ g.2.2.length ≤ 3 ∧ ∀ r ∈ g.2.2, rootG g.2.1 r = true := by
  rw [mayG, mayOs, mayRs] at h
  simp only [Bool.and_eq_true, decide_eq_true_eq, List.all_eq_true] at h
  exact ⟨h.1.1, h.1.2.1, h.1.2.2, h.2.1, h.2.2⟩
theorem mayO_iff {g : Gr} {o : Ob} : mayO g o = true ↔ (0 ≤ o.2.1 ∧ o.2.1 < (g.1.length : Int)) ∧ (fldsG g.1 o.2.1).length = o.2.2.length ∧ ∀ (k : Nat) f v, (fldsG g.1 o.2.1)[k]? = some f → o.2.2[k]? = some v → haveG g f v = true := by
  rw [mayO, Bool.and_eq_true, Bool.and_eq_true, decide_eq_true_eq, decide_eq_true_eq, all2_iff]
theorem mayG_obj {g : Gr} (h : mayG g = true) {o : Ob} (ho : o ∈ g.2.1) : MayObj g o := by
  obtain ⟨h1, h2, h3⟩ := riseG_mem (mayG_parts h).2.2.1 o ho
  obtain ⟨h4, h5, h6⟩ := mayO_iff.1 h3
  exact ⟨by omega, h2, h4.1, h4.2, h5, h6⟩
theorem mayG_apart {g : Gr} (h : mayG g = true) {o p : Ob} (ho : o ∈ g.2.1) (hp : p ∈ g.2.1) (e : o.1 = p.1) : o = p := sorted_apart (riseG_sorted (mayG_parts h).2.2.1) ho hp e
theorem haveG_ref {g : Gr} {f : Fld} {v : Vl} (h : haveG g f v = true) (h5 : f.2.1 = 5) (hr : v.2.2 ≠ -1) : findG g.2.1 v.2.2 ≠ -1 ∧ typG g.2.1 v.2.2 = findS g.1 f.2.2 := by
  rw [haveG] at h
  simp only [h5, ne_eq, not_true_eq_false, decide_false, Bool.false_or, hr, Bool.and_eq_true, decide_eq_true_eq] at h
  exact ⟨by simpa using h.2.1, h.2.2⟩
end Go.Proofs.YtclbjbhpncpmbaaGreatDoor

/- What a graph's acts answer, on plain data: swept, reached, a new object, a value set, a root set, and why not. No condition. -/
namespace Go.Proofs.YtclbjbhpncpmbaaGreatDoor
open Go.RowKit

open Classical in
/-- Swept: what is come to alone. -/
noncomputable def sweepG (g : Gr) : Gr := if mayG g = true then (g.1, g.2.1.filter (fun o => decide (ComeG g o.1)), g.2.2) else ([], [], [])
/-- The ids that are come to. -/
noncomputable def reachG (g : Gr) : List Int := (sweepG g).2.1.map (·.1)
theorem sweepG_no {g : Gr} (h : mayG g = false) : sweepG g = ([], [], []) := if_neg (by rw [h]; decide)
open Classical in
theorem sweepG_yes {g : Gr} (h : mayG g = true) : sweepG g = (g.1, g.2.1.filter (fun o => decide (ComeG g o.1)), g.2.2) := if_pos h
theorem sweepG_set {g : Gr} {L : List Int} (h : mayG g = true) (hL : ∀ x, x ∈ L ↔ ComeG g x) : sweepG g = (g.1, g.2.1.filter (fun o => decide (o.1 ∈ L)), g.2.2) := by
  rw [sweepG_yes h]
  congr 2
  exact List.filter_congr fun o _ => by simp [hL]
def nextG (os : List Ob) : Int := match os.getLast? with | none => 0 | some o => o.1 + 1
def newE (g : Gr) (t : Int) : Int := if mayG g = true then if (decide (0 ≤ t) && decide (t < (g.1.length : Int))) = true then if g.2.1.length = 8 ∨ 1073741824 < nextG g.2.1 then 8 else 0 else 6 else 1
/-- The object of an id. -/
def objG (os : List Ob) (id : Int) : Ob := os.getD (findG os id).toNat (0, 0, [])
def setE (g : Gr) (id k : Int) (v : Vl) : Int :=
  if mayG g = true then if findG g.2.1 id ≠ -1 ∧ (decide (0 ≤ k) && decide (k < ((objG g.2.1 id).2.2.length : Int))) = true then if haveG g ((fldsG g.1 (objG g.2.1 id).2.1).getD k.toNat ([], 0, [])) v = true then 0 else 6 else 11 else 1
def rootE (g : Gr) (i id : Int) : Int := if mayG g = true then if (decide (0 ≤ i) && decide (i < 3)) = true ∧ i ≤ (g.2.2.length : Int) ∧ rootG g.2.1 id = true then 0 else 11 else 1
theorem nextG_nil : nextG [] = 0 := rfl
theorem nextG_last {os : List Ob} {o : Ob} (h : os[os.length - 1]? = some o) : nextG os = o.1 + 1 := by
  rw [nextG, List.getLast?_eq_getElem?, h]
theorem objG_at {os : List Ob} {id : Int} {i : Nat} {o : Ob} (hi : findG os id = (i : Int)) (ho : os[i]? = some o) : objG os id = o := by
  rw [objG, hi, Int.toNat_natCast, List.getD_eq_getElem?_getD, ho]; rfl
def newG (g : Gr) (t : Int) : Gr := if newE g t = 0 then (g.1, g.2.1 ++ [(nextG g.2.1, t, (fldsG g.1 t).map fun f => zeroV f.2.1)], g.2.2) else g
def newI (g : Gr) (t : Int) : Int := if newE g t = 0 then nextG g.2.1 else -1
theorem newE_0 {g : Gr} {t : Int} (h : newE g t = 0) : mayG g = true ∧ (0 ≤ t ∧ t < (g.1.length : Int)) ∧ g.2.1.length ≠ 8 ∧ nextG g.2.1 ≤ 1073741824 := by
  rw [newE] at h
  split at h
  · rename_i h1
    split at h
    · rename_i h2
      split at h
      · cases h
      · simp at h2
        exact ⟨h1, h2, by omega, by omega⟩
    · cases h
  · cases h
def rootN (g : Gr) (i id : Int) : Gr := if rootE g i id = 0 then (g.1, g.2.1, if i = (g.2.2.length : Int) then g.2.2 ++ [id] else g.2.2.set i.toNat id) else g
theorem rootE_0 {g : Gr} {i id : Int} (h : rootE g i id = 0) : mayG g = true ∧ 0 ≤ i ∧ i < 3 ∧ i ≤ (g.2.2.length : Int) ∧ rootG g.2.1 id = true := by
  rw [rootE] at h
  split at h
  · rename_i h1
    split at h
    · rename_i h2
      obtain ⟨h3, h4, h5⟩ := h2
      simp at h3
      exact ⟨h1, h3.1, h3.2, h4, h5⟩
    · cases h
  · cases h
def setN (g : Gr) (id k : Int) (v : Vl) : Gr := if setE g id k v = 0 then (g.1, g.2.1.set (findG g.2.1 id).toNat ((objG g.2.1 id).1, (objG g.2.1 id).2.1, (objG g.2.1 id).2.2.set k.toNat v), g.2.2) else g
theorem setE_0 {g : Gr} {id k : Int} {v : Vl} (h : setE g id k v = 0) : mayG g = true ∧ findG g.2.1 id ≠ -1 ∧ 0 ≤ k ∧ k < ((objG g.2.1 id).2.2.length : Int) ∧ haveG g ((fldsG g.1 (objG g.2.1 id).2.1).getD k.toNat ([], 0, [])) v = true := by
  rw [setE] at h
  split at h
  · rename_i h1
    split at h
    · rename_i h2
      split at h
      · rename_i h3
        have h4 := h2.2
        simp at h4
        exact ⟨h1, h2.1, h4.1, h4.2, h3⟩
      · cases h
    · cases h
  · cases h
end Go.Proofs.YtclbjbhpncpmbaaGreatDoor

/- The texts GrRootPlain, GrStayPlain, GrLeastPlain, GrSetPlain, GrNewPlain, GrLeapPlain in one; what each proves, and its conditions, stands before it. -/
/- More roots, no roots: what may be, and what is come to. No condition. -/
namespace Go.Proofs.YtclbjbhpncpmbaaGreatDoor

theorem riseG_roots (g : Gr) (l : List Int) : ∀ (last : Int) (os : List Ob), riseG (g.1, g.2.1, l) last os = riseG g last os
  | _, [] => rfl
  | last, o :: os => by rw [riseG, riseG, riseG_roots g l o.1 os]; rfl
theorem mayG_roots {g : Gr} {l : List Int} (h : mayG g = true) (hl : l.length ≤ 3) (hr : ∀ r ∈ l, rootG g.2.1 r = true) : mayG (g.1, g.2.1, l) = true := by
  obtain ⟨m1, m2, m3, -, -⟩ := mayG_parts h
  rw [mayG, mayOs, mayRs]
  simp only [Bool.and_eq_true, decide_eq_true_eq, List.all_eq_true]
  exact ⟨⟨m1, m2, by rw [riseG_roots]; exact m3⟩, hl, hr⟩
theorem rootN_may {g : Gr} {i id : Int} (h : rootE g i id = 0) : mayG (rootN g i id) = true := by
  obtain ⟨hm, h0, h3, hK, hr⟩ := rootE_0 h
  have hp := (mayG_parts hm).2.2.2
  rw [rootN, if_pos h]
  refine mayG_roots hm ?_ ?_
  · split
    · rw [List.length_append, List.length_singleton]; omega
    · rw [List.length_set]; exact hp.1
  · intro r hr'
    split at hr'
    · rcases List.mem_append.1 hr' with h1 | h1
      · exact hp.2 r h1
      · simp at h1; subst h1; exact hr
    · rcases List.mem_or_eq_of_mem_set hr' with h1 | h1
      · exact hp.2 r h1
      · subst h1; exact hr
theorem from_roots {g : Gr} {l : List Int} {id x : Int} (h : From g id x) : From (g.1, g.2.1, l) id x := by
  induction h with
  | here => exact .here
  | step _ ho hr ih => exact .step ih ho hr
theorem come_roots {g : Gr} {l : List Int} {x : Int} (h : ComeG g x) (hl : ∀ r ∈ g.2.2, r ∈ l) : ComeG (g.1, g.2.1, l) x := by
  obtain ⟨id, hid, hn, hf⟩ := h
  exact ⟨id, hl id hid, hn, from_roots hf⟩
theorem reach_none {g : Gr} : reachG (g.1, g.2.1, []) = [] := by
  rw [reachG]
  by_cases h : mayG (g.1, g.2.1, []) = true
  · rw [sweepG_yes h]
    have : (g.1, g.2.1, ([] : List Int)).2.1.filter (fun o => @decide (ComeG (g.1, g.2.1, []) o.1) (Classical.propDecidable _)) = [] := List.filter_eq_nil_iff.2 fun o _ => by
      simp only [decide_eq_true_eq]
      rintro ⟨id, hid, -⟩
      cases hid
    rw [this]; rfl
  · rw [sweepG_no (by simpa using h)]; rfl
theorem reach_mono {g h : Gr} (hg : mayG g = true) (hh : mayG h = true) (he : h.2.1 = g.2.1) (hc : ∀ x, ComeG g x → ComeG h x) : (reachG g).length ≤ (reachG h).length := by
  rw [reachG, reachG, List.length_map, List.length_map, sweepG_yes hg, sweepG_yes hh]
  show (List.filter _ g.2.1).length ≤ (List.filter _ h.2.1).length
  rw [he, ← List.countP_eq_length_filter, ← List.countP_eq_length_filter]
  exact List.countP_mono_left fun o _ ho => by simp only [decide_eq_true_eq] at ho ⊢; exact hc _ ho
theorem reach_mem {g : Gr} (hg : mayG g = true) {x : Int} : x ∈ reachG g ↔ ComeG g x ∧ ∃ o ∈ g.2.1, o.1 = x := by
  rw [reachG, sweepG_yes hg, List.mem_map]
  simp only [List.mem_filter, decide_eq_true_eq]
  constructor
  · rintro ⟨o, ⟨h1, h2⟩, rfl⟩
    exact ⟨h2, o, h1, rfl⟩
  · rintro ⟨h1, o, h2, rfl⟩
    exact ⟨o, ⟨h2, h1⟩, rfl⟩
theorem root_more {g : Gr} {id : Int} (h : rootE g (g.2.2.length : Int) id = 0) : (reachG g).length ≤ (reachG (rootN g (g.2.2.length : Int) id)).length := by
  have hm := rootN_may h
  rw [rootN, if_pos h, if_pos rfl] at hm ⊢
  exact reach_mono (rootE_0 h).1 hm rfl fun x hx => come_roots hx fun r hr => List.mem_append_left _ hr
theorem root_here {g : Gr} {i id : Int} (h : rootE g i id = 0) (hid : 0 ≤ id) : id ∈ reachG (rootN g i id) := by
  obtain ⟨hm, h0, h3, hK, hr⟩ := rootE_0 h
  rw [rootG, Bool.or_eq_true, decide_eq_true_eq, decide_eq_true_eq] at hr
  obtain ⟨o, ho, he⟩ := findG_mem.1 (hr.resolve_left (by omega))
  rw [reach_mem (rootN_may h)]
  rw [rootN, if_pos h]
  refine ⟨⟨id, ?_, by omega, .here⟩, o, ho, he⟩
  show id ∈ (if i = (g.2.2.length : Int) then g.2.2 ++ [id] else g.2.2.set i.toNat id)
  split
  · simp
  · exact List.mem_set (by omega) _
end Go.Proofs.YtclbjbhpncpmbaaGreatDoor

/- What may be stays so: with a new object, another value, another root, and swept; what is come to, swept. No condition. -/
namespace Go.Proofs.YtclbjbhpncpmbaaGreatDoor

theorem riseG_iff {g : Gr} : ∀ {last : Int} {l : List Ob}, riseG g last l = true ↔ (∀ o ∈ l, last < o.1 ∧ o.1 ≤ 1073741824 ∧ mayO g o = true) ∧ l.Pairwise fun o p => o.1 < p.1
  | last, [] => by simp [riseG]
  | last, o :: l => by
    constructor
    · exact fun h => ⟨riseG_mem h, riseG_sorted h⟩
    · rintro ⟨h1, h2⟩
      rw [List.pairwise_cons] at h2
      obtain ⟨a1, a2, a3⟩ := h1 o (List.mem_cons_self ..)
      rw [riseG, Bool.and_eq_true, Bool.and_eq_true, Bool.and_eq_true, decide_eq_true_eq, decide_eq_true_eq]
      refine ⟨⟨⟨a1, a2⟩, a3⟩, riseG_iff.2 ⟨fun p hp => ?_, h2.2⟩⟩
      obtain ⟨b1, b2, b3⟩ := h1 p (List.mem_cons_of_mem _ hp)
      exact ⟨h2.1 p hp, b2, b3⟩
theorem mayG_mk {g : Gr} (h1 : mayS g.1 = true) (h2 : g.2.1.length ≤ 8) (h3 : g.2.2.length ≤ 3) (h4 : ∀ r ∈ g.2.2, rootG g.2.1 r = true) (h5 : ∀ o ∈ g.2.1, MayObj g o) (h6 : g.2.1.Pairwise fun o p => o.1 < p.1) : mayG g = true := by
  rw [mayG, mayOs, mayRs]
  simp only [Bool.and_eq_true, decide_eq_true_eq, List.all_eq_true]
  refine ⟨⟨h1, h2, riseG_iff.2 ⟨fun o ho => ?_, h6⟩⟩, h3, h4⟩
  have m := h5 o ho
  have := m.id0
  exact ⟨by omega, m.id1, mayO_iff.2 ⟨⟨m.t0, m.t1⟩, m.len, m.have'⟩⟩
theorem mayG_sorted {g : Gr} (h : mayG g = true) : g.2.1.Pairwise fun o p => o.1 < p.1 := riseG_sorted (mayG_parts h).2.2.1
theorem haveG_mono {g h : Gr} {f : Fld} {v : Vl} (hs : h.1 = g.1) (hh : haveG g f v = true) (hf : f.2.1 = 5 → v.2.2 ≠ -1 → findG g.2.1 v.2.2 ≠ -1 → findG h.2.1 v.2.2 ≠ -1 ∧ typG h.2.1 v.2.2 = typG g.2.1 v.2.2) : haveG h f v = true := by
  by_cases h5 : f.2.1 = 5
  · by_cases hr : v.2.2 = -1
    · rw [haveG] at hh ⊢
      simp only [hr, decide_true, Bool.or_true, Bool.true_or, Bool.and_true] at hh ⊢
      exact hh
    · obtain ⟨a1, a2⟩ := haveG_ref hh h5 hr
      obtain ⟨b1, b2⟩ := hf h5 hr a1
      rw [haveG] at hh ⊢
      rw [Bool.and_eq_true] at hh
      rw [hh.1, b2, a2, hs]
      simp [b1]
  · rw [haveG] at hh ⊢
    simp only [ne_eq, h5, not_false_eq_true, decide_true, Bool.true_or, Bool.and_true] at hh ⊢
    exact hh
/-- Where an object of that id stands, its type's place is told. -/
theorem typG_of {os : List Ob} {o : Ob} (hs : os.Pairwise fun o p => o.1 < p.1) (ho : o ∈ os) : findG os o.1 ≠ -1 ∧ typG os o.1 = o.2.1 := by
  have h := findG_mem.2 ⟨o, ho, rfl⟩
  obtain ⟨i, p, -, h2, h3, h4⟩ := findG_at h
  obtain rfl := sorted_apart hs (List.mem_of_getElem? h2) ho h3
  exact ⟨h, h4⟩
/-- Objects of the same ids and types are found alike. -/
theorem find_of {os ps : List Ob} {r : Int} (hs : os.Pairwise fun o p => o.1 < p.1) (hp : ps.Pairwise fun o p => o.1 < p.1) (h : ∀ o ∈ os, o.1 = r → ∃ p ∈ ps, p.1 = o.1 ∧ p.2.1 = o.2.1) (hr : findG os r ≠ -1) : findG ps r ≠ -1 ∧ typG ps r = typG os r := by
  obtain ⟨o, ho, rfl⟩ := findG_mem.1 hr
  obtain ⟨p, hpp, e1, e2⟩ := h o ho rfl
  have a := typG_of hs ho
  have b := typG_of hp hpp
  rw [e1] at b
  exact ⟨b.1, by rw [b.2, a.2, e2]⟩
theorem nextG_above {g : Gr} (hm : mayG g = true) : ∀ o ∈ g.2.1, o.1 < nextG g.2.1 := by
  intro o ho
  obtain ⟨i, hi⟩ := List.getElem?_of_mem ho
  have hil := (List.getElem?_eq_some_iff.1 hi).1
  obtain ⟨q, hq⟩ : ∃ q, g.2.1[g.2.1.length - 1]? = some q := ⟨_, List.getElem?_eq_getElem (by omega)⟩
  rw [nextG_last hq]
  have hs := mayG_sorted hm
  rw [List.pairwise_iff_getElem] at hs
  by_cases hl : i = g.2.1.length - 1
  · subst hl
    rw [hi] at hq
    injection hq with hq
    subst hq
    omega
  · have := hs i (g.2.1.length - 1) hil (by omega) (by omega)
    rw [(List.getElem?_eq_some_iff.1 hi).2, (List.getElem?_eq_some_iff.1 hq).2] at this
    omega
theorem nextG_low {g : Gr} (hm : mayG g = true) : 0 ≤ nextG g.2.1 := by
  rw [nextG]
  split
  · omega
  · rename_i o ho
    have := (mayG_obj hm (List.mem_of_getLast? ho)).id0
    omega
theorem newG_may {g : Gr} {t : Int} (h : newE g t = 0) : mayG (newG g t) = true := by
  obtain ⟨hm, ht, h8, hx⟩ := newE_0 h
  obtain ⟨m1, m2, m3, m4, m5⟩ := mayG_parts hm
  have hab := nextG_above hm
  have hlo := nextG_low hm
  have hs := mayG_sorted hm
  obtain ⟨tn, htn⟩ : ∃ tn : Nat, t = (tn : Int) := ⟨t.toNat, by omega⟩
  obtain ⟨ty, hty⟩ : ∃ ty, g.1[tn]? = some ty := ⟨_, List.getElem?_eq_getElem (by omega)⟩
  have hff := fldsG_at htn hty
  have hsn : (g.2.1 ++ [((nextG g.2.1, t, (fldsG g.1 t).map fun f => zeroV f.2.1) : Ob)]).Pairwise fun o p => o.1 < p.1 := by
    rw [List.pairwise_append]
    refine ⟨hs, List.pairwise_singleton _ _, fun o ho p hp => ?_⟩
    simp at hp
    subst hp
    exact hab o ho
  rw [newG, if_pos h]
  refine mayG_mk m1 (by rw [List.length_append, List.length_singleton]; omega) m4 (fun r hr => ?_) (fun o ho => ?_) hsn
  · have := m5 r hr
    rw [rootG, Bool.or_eq_true, decide_eq_true_eq, decide_eq_true_eq] at this ⊢
    refine this.imp id fun h1 => ?_
    obtain ⟨o, ho, e⟩ := findG_mem.1 h1
    exact findG_mem.2 ⟨o, List.mem_append_left _ ho, e⟩
  · rcases List.mem_append.1 ho with ho | ho
    · have m := mayG_obj hm ho
      refine ⟨m.id0, m.id1, m.t0, m.t1, m.len, fun k f v hf hv => ?_⟩
      exact haveG_mono (g := g) rfl (m.have' k f v hf hv) fun _ _ hr => find_of hs hsn (fun o ho _ => ⟨o, List.mem_append_left _ ho, rfl, rfl⟩) hr
    · simp at ho
      subst ho
      refine ⟨hlo, hx, ht.1, ht.2, by simp, fun k f v hf hv => ?_⟩
      have hf' : (fldsG g.1 t)[k]? = some f := hf
      have hv' : ((fldsG g.1 t).map fun f => zeroV f.2.1)[k]? = some v := hv
      rw [List.getElem?_map, hf', Option.map_some] at hv'
      injection hv' with hv'
      subst hv'
      rw [hff] at hf'
      obtain ⟨-, m7⟩ := (mayS_iff g.1).1 m1
      obtain ⟨-, -, -, m8⟩ := (mayT_iff g.1 tn ty).1 (m7 tn ty hty)
      obtain ⟨-, -, m9⟩ := (mayF_iff g.1 ty.2 k f).1 (m8 k f hf')
      rw [leadS] at m9
      rw [haveG]
      split at m9
      · rename_i h5
        rw [h5, show fitsV 5 (zeroV 5) = true by decide, show (zeroV 5).2.2 = -1 by decide]
        simp
      · rename_i h5
        simp only [Bool.and_eq_true, decide_eq_true_eq] at m9
        rw [vl_fits_zero, decide_eq_true (by omega)]
        simp [h5]
theorem setN_sorted {os : List Ob} {I : Nat} {o p : Ob} (hs : os.Pairwise fun o p => o.1 < p.1) (ho : os[I]? = some o) (he : p.1 = o.1) : (os.set I p).Pairwise fun o p => o.1 < p.1 := by
  have e : (os.set I p).map (·.1) = os.map (·.1) := by
    rw [List.map_set, he]
    refine List.ext_getElem? fun i => ?_
    by_cases hi : i = I
    · subst hi
      have hl := (List.getElem?_eq_some_iff.1 ho).1
      rw [List.getElem?_set_self (by simpa using hl), List.getElem?_map, ho]; rfl
    · rw [List.getElem?_set_ne (fun e => hi e.symm)]
  have h1 : (os.map (·.1)).Pairwise (· < ·) := List.pairwise_map.2 hs
  rw [← e] at h1
  exact List.pairwise_map.1 h1
theorem setN_may {g : Gr} {id k : Int} {v : Vl} (h : setE g id k v = 0) : mayG (setN g id k v) = true := by
  obtain ⟨hm, hf, hk0, hkl, hv⟩ := setE_0 h
  obtain ⟨m1, m2, m3, m4, m5⟩ := mayG_parts hm
  obtain ⟨I, o, hI, hgi, -, -⟩ := findG_at hf
  have hoe := objG_at hI hgi
  rw [hoe] at hkl hv
  have hs := mayG_sorted hm
  have hom := List.mem_of_getElem? hgi
  have hIl := (List.getElem?_eq_some_iff.1 hgi).1
  rw [setN, if_pos h, hI, hoe, Int.toNat_natCast]
  have hsn := setN_sorted (p := (o.1, o.2.1, o.2.2.set k.toNat v)) hs hgi rfl
  have hfind : ∀ q ∈ g.2.1, ∃ p ∈ g.2.1.set I (o.1, o.2.1, o.2.2.set k.toNat v), p.1 = q.1 ∧ p.2.1 = q.2.1 := by
    intro q hq
    obtain ⟨j, hj⟩ := List.getElem?_of_mem hq
    by_cases hji : j = I
    · subst hji
      rw [hgi] at hj
      injection hj with hj
      subst hj
      exact ⟨_, List.mem_set hIl _, rfl, rfl⟩
    · exact ⟨q, List.mem_of_getElem? (i := j) (by rw [List.getElem?_set_ne (fun e => hji e.symm)]; exact hj), rfl, rfl⟩
  have hmono : ∀ f w, haveG g f w = true → haveG (g.1, g.2.1.set I (o.1, o.2.1, o.2.2.set k.toNat v), g.2.2) f w = true := fun f w hw =>
    haveG_mono (g := g) rfl hw fun _ _ hr => find_of hs hsn (fun q hq _ => by obtain ⟨p, h1, h2, h3⟩ := hfind q hq; exact ⟨p, h1, h2, h3⟩) hr
  refine mayG_mk m1 (by rw [List.length_set]; exact m2) m4 (fun r hr => ?_) (fun p hp => ?_) hsn
  · have := m5 r hr
    rw [rootG, Bool.or_eq_true, decide_eq_true_eq, decide_eq_true_eq] at this ⊢
    refine this.imp (fun h => h) fun h1 => ?_
    obtain ⟨q, hq, e⟩ := findG_mem.1 h1
    obtain ⟨p, h1, h2, -⟩ := hfind q hq
    exact findG_mem.2 ⟨p, h1, by rw [h2, e]⟩
  · rcases List.mem_or_eq_of_mem_set hp with hp | rfl
    · have m := mayG_obj hm hp
      exact ⟨m.id0, m.id1, m.t0, m.t1, m.len, fun k f v hf hv => hmono f v (m.have' k f v hf hv)⟩
    · have m := mayG_obj hm hom
      refine ⟨m.id0, m.id1, m.t0, m.t1, by simpa using m.len, fun j f w hf hw => hmono f w ?_⟩
      have hf' : (fldsG g.1 o.2.1)[j]? = some f := hf
      have hw' : (o.2.2.set k.toNat v)[j]? = some w := hw
      by_cases hjk : j = k.toNat
      · subst hjk
        rw [List.getElem?_set_self (by omega)] at hw'
        injection hw' with hw'
        subst hw'
        rw [List.getD_eq_getElem?_getD, hf', Option.getD_some] at hv
        exact hv
      · rw [List.getElem?_set_ne (fun e => hjk e.symm)] at hw'
        exact m.have' j f w hf' hw'
/-- Where a Ref of what is come to leads is come to, and is there. -/
theorem come_ref {g : Gr} (hm : mayG g = true) {o : Ob} (ho : o ∈ g.2.1) (hc : ComeG g o.1) {k : Nat} {f : Fld} {v : Vl} (hf : (fldsG g.1 o.2.1)[k]? = some f) (hv : o.2.2[k]? = some v) (h5 : f.2.1 = 5) (hr : v.2.2 ≠ -1) : ComeG g v.2.2 ∧ ∃ p ∈ g.2.1, p.1 = v.2.2 := by
  obtain ⟨id, h1, h2, h3⟩ := hc
  exact ⟨⟨id, h1, h2, .step h3 ho (refsG_mem.2 ⟨k, f, v, hf, hv, h5, hr, rfl⟩)⟩, findG_mem.1 (haveG_ref ((mayG_obj hm ho).have' k f v hf hv) h5 hr).1⟩
theorem come_is {g : Gr} (hm : mayG g = true) {x : Int} (hc : ComeG g x) : ∃ p ∈ g.2.1, p.1 = x := by
  obtain ⟨id, h1, h2, h3⟩ := hc
  cases h3 with
  | here =>
    have := (mayG_parts hm).2.2.2.2 _ h1
    rw [rootG, Bool.or_eq_true, decide_eq_true_eq, decide_eq_true_eq] at this
    exact findG_mem.1 (this.resolve_left h2)
  | step hf ho hr =>
    obtain ⟨k, f, v, a1, a2, a3, a4, rfl⟩ := refsG_mem.1 hr
    exact findG_mem.1 (haveG_ref ((mayG_obj hm ho).have' k f v a1 a2) a3 a4).1
theorem sweep_mem {g : Gr} (hm : mayG g = true) {o : Ob} : o ∈ (sweepG g).2.1 ↔ o ∈ g.2.1 ∧ ComeG g o.1 := by
  rw [sweepG_yes hm]
  simp [List.mem_filter]
theorem sweepG_may {g : Gr} (hm : mayG g = true) : mayG (sweepG g) = true := by
  obtain ⟨m1, m2, m3, m4, m5⟩ := mayG_parts hm
  have hs := mayG_sorted hm
  have e1 : (sweepG g).1 = g.1 := by rw [sweepG_yes hm]
  have e3 : (sweepG g).2.2 = g.2.2 := by rw [sweepG_yes hm]
  have hsub : ((sweepG g).2.1).Sublist g.2.1 := by rw [sweepG_yes hm]; exact List.filter_sublist
  have hsn := hs.sublist hsub
  refine mayG_mk (by rw [e1]; exact m1) (Nat.le_trans hsub.length_le m2) (by rw [e3]; exact m4) (fun r hr => ?_) (fun o ho => ?_) hsn
  · rw [e3] at hr
    have := m5 r hr
    rw [rootG, Bool.or_eq_true, decide_eq_true_eq, decide_eq_true_eq] at this ⊢
    by_cases h1 : r = -1
    · exact .inl h1
    · obtain ⟨o, ho, e⟩ := findG_mem.1 (this.resolve_left h1)
      exact .inr (findG_mem.2 ⟨o, (sweep_mem hm).2 ⟨ho, ⟨r, hr, h1, by rw [e]; exact .here⟩⟩, e⟩)
  · obtain ⟨ho1, ho2⟩ := (sweep_mem hm).1 ho
    have m := mayG_obj hm ho1
    refine ⟨m.id0, m.id1, m.t0, by rw [e1]; exact m.t1, by rw [e1]; exact m.len, fun k f v hf hv => ?_⟩
    rw [e1] at hf
    refine haveG_mono (g := g) e1 (m.have' k f v hf hv) fun h5 hr hfi => ?_
    obtain ⟨hc, p, hp, e⟩ := come_ref hm ho1 ho2 hf hv h5 hr
    refine find_of hs hsn (fun q hq hqr => ⟨q, (sweep_mem hm).2 ⟨hq, by rw [hqr]; exact hc⟩, rfl, rfl⟩) hfi
theorem sweep_come {g : Gr} (hm : mayG g = true) (x : Int) : ComeG (sweepG g) x ↔ ComeG g x := by
  have e1 : (sweepG g).1 = g.1 := by rw [sweepG_yes hm]
  have e3 : (sweepG g).2.2 = g.2.2 := by rw [sweepG_yes hm]
  constructor
  · rintro ⟨id, h1, h2, h3⟩
    rw [e3] at h1
    refine ⟨id, h1, h2, ?_⟩
    induction h3 with
    | here => exact .here
    | step _ ho hr ih => rw [e1] at hr; exact .step ih ((sweep_mem hm).1 ho).1 hr
  · rintro ⟨id, h1, h2, h3⟩
    refine ⟨id, by rw [e3]; exact h1, h2, ?_⟩
    induction h3 with
    | here => exact .here
    | step hf ho hr ih => exact .step ih ((sweep_mem hm).2 ⟨ho, id, h1, h2, hf⟩) (by rw [e1]; exact hr)
theorem sweep_twice {g : Gr} (hm : mayG g = true) : sweepG (sweepG g) = sweepG g := by
  rw [sweepG_yes (sweepG_may hm)]
  have e : (sweepG g).2.1.filter (fun o => @decide (ComeG (sweepG g) o.1) (Classical.propDecidable _)) = (sweepG g).2.1 := List.filter_eq_self.2 fun o ho => by
    simp only [decide_eq_true_eq]
    exact (sweep_come hm _).2 ((sweep_mem hm).1 ho).2
  rw [e]
theorem reach_twice {g : Gr} (hm : mayG g = true) : reachG (sweepG g) = reachG g := by rw [reachG, sweep_twice hm, reachG]
end Go.Proofs.YtclbjbhpncpmbaaGreatDoor

/- Nothing is come to but roots, and what leads from them. No condition. -/
namespace Go.Proofs.YtclbjbhpncpmbaaGreatDoor

/-- Of objects of which are all roots, and where their Refs lead, all that is come to is one. -/
theorem least_come {g : Gr} {some : List Bool} (hm : mayG g = true) (hr : ∀ r ∈ g.2.2, 0 ≤ r → some[(findG g.2.1 r).toNat]? = Option.some true)
    (hs : ∀ (i : Nat) o (k : Nat) f v, g.2.1[i]? = Option.some o → some[i]? = Option.some true → (fldsG g.1 o.2.1)[k]? = Option.some f → o.2.2[k]? = Option.some v → f.2.1 = 5 → 0 ≤ v.2.2 → some[(findG g.2.1 v.2.2).toNat]? = Option.some true) {x : Int} (hx : ComeG g x) : some[(findG g.2.1 x).toNat]? = Option.some true := by
  obtain ⟨id, h1, h2, h3⟩ := hx
  induction h3 with
  | here =>
    obtain ⟨p, hp, e⟩ := come_is hm (x := id) ⟨id, h1, h2, .here⟩
    have := (mayG_obj hm hp).id0
    exact hr id h1 (by omega)
  | step hf ho hr' ih =>
    rename_i o r
    obtain ⟨k, f, v, a1, a2, a3, a4, rfl⟩ := refsG_mem.1 hr'
    have hfo := findG_mem.2 ⟨o, ho, rfl⟩
    obtain ⟨i, p, e1, e2, e3, -⟩ := findG_at hfo
    obtain rfl := mayG_apart hm (List.mem_of_getElem? e2) ho e3
    rw [e1, Int.toNat_natCast] at ih
    obtain ⟨q, hq, e⟩ := findG_mem.1 (haveG_ref ((mayG_obj hm ho).have' k f v a1 a2) a3 a4).1
    have := (mayG_obj hm hq).id0
    exact hs i p k f v e2 ih a1 a2 a3 (by omega)
end Go.Proofs.YtclbjbhpncpmbaaGreatDoor

/- A value that is set, and set back, on plain data. No condition. -/
namespace Go.Proofs.YtclbjbhpncpmbaaGreatDoor

theorem find_set {os : List Ob} {id : Int} {I : Nat} {o p : Ob} (hI : findG os id = (I : Int)) (ho : os[I]? = some o) (he : p.1 = o.1) : findG (os.set I p) id = (I : Int) := by
  obtain ⟨⟨q, hq, hd⟩, hlt⟩ := (idxP_iff _ os I).1 hI
  rw [ho] at hq
  injection hq with hq
  subst hq
  have hl := (List.getElem?_eq_some_iff.1 ho).1
  refine (idxP_iff _ _ I).2 ⟨⟨p, List.getElem?_set_self hl, ?_⟩, fun j b hj hb => ?_⟩
  · rw [decide_eq_true_eq] at hd ⊢
    omega
  · rw [List.getElem?_set_ne (by omega)] at hb
    exact hlt j b hj hb
theorem set_same {α : Type} {l : List α} {i : Nat} {a : α} (h : l[i]? = some a) : l.set i a = l := by
  obtain ⟨hl, rfl⟩ := List.getElem?_eq_some_iff.1 h
  exact List.set_getElem_self hl
/-- What stands where, and that the one that was can be set back. -/
theorem set_back {g : Gr} {id k : Int} {v : Vl} (h : setE g id k v = 0) : ∃ (I kn : Nat) (o : Ob) (v0 : Vl), findG g.2.1 id = (I : Int) ∧ g.2.1[I]? = some o ∧ k = (kn : Int) ∧ kn < o.2.2.length ∧ o.2.2[kn]? = some v0 ∧ (setN g id k v).1.length = g.1.length ∧ (setN g id k v).2.1.length = g.2.1.length ∧ (setN g id k v).2.2.length = g.2.2.length ∧
    (setN g id k v).2.1[I]? = some (o.1, o.2.1, o.2.2.set kn v) ∧ (o.2.2.set kn v)[kn]? = some v ∧ mayG (setN g id k v) = true ∧ setE (setN g id k v) id k v0 = 0 ∧ setN (setN g id k v) id k v0 = g := by
  obtain ⟨hm, hf, hk0, hkl, hv⟩ := setE_0 h
  obtain ⟨I, o, hI, hgi, -, -⟩ := findG_at hf
  have hoe := objG_at hI hgi
  rw [hoe] at hkl hv
  obtain ⟨kn, rfl⟩ : ∃ kn : Nat, k = (kn : Int) := ⟨k.toNat, by omega⟩
  have hkl' : kn < o.2.2.length := by omega
  obtain ⟨v0, hv0⟩ : ∃ v0, o.2.2[kn]? = some v0 := ⟨_, List.getElem?_eq_getElem hkl'⟩
  have hmn := setN_may h
  have hIl := (List.getElem?_eq_some_iff.1 hgi).1
  have e : setN g id (kn : Int) v = (g.1, g.2.1.set I (o.1, o.2.1, o.2.2.set kn v), g.2.2) := by rw [setN, if_pos h, hI, hoe, Int.toNat_natCast, Int.toNat_natCast]
  have hat : (g.2.1.set I (o.1, o.2.1, o.2.2.set kn v))[I]? = some (o.1, o.2.1, o.2.2.set kn v) := List.getElem?_set_self hIl
  have hfi := find_set (p := (o.1, o.2.1, o.2.2.set kn v)) hI hgi rfl
  have hon := objG_at hfi hat
  have hom := List.mem_of_getElem? hgi
  have mo := mayG_obj hm hom
  have hs := mayG_sorted hm
  have hsn := setN_sorted (p := (o.1, o.2.1, o.2.2.set kn v)) hs hgi rfl
  have hhv : haveG (g.1, g.2.1.set I (o.1, o.2.1, o.2.2.set kn v), g.2.2) ((fldsG g.1 o.2.1).getD kn ([], 0, [])) v0 = true := by
    obtain ⟨f, hf'⟩ : ∃ f, (fldsG g.1 o.2.1)[kn]? = some f := ⟨_, List.getElem?_eq_getElem (by have := mo.len; omega)⟩
    rw [List.getD_eq_getElem?_getD, hf', Option.getD_some]
    refine haveG_mono (g := g) rfl (mo.have' kn f v0 hf' hv0) fun _ _ hr => find_of hs hsn (fun q hq _ => ?_) hr
    obtain ⟨j, hj⟩ := List.getElem?_of_mem hq
    by_cases hji : j = I
    · subst hji
      rw [hgi] at hj
      injection hj with hj
      subst hj
      exact ⟨_, List.mem_set hIl _, rfl, rfl⟩
    · exact ⟨q, List.mem_of_getElem? (i := j) (by rw [List.getElem?_set_ne (fun e => hji e.symm)]; exact hj), rfl, rfl⟩
  rw [e] at hmn ⊢
  have hE : setE (g.1, g.2.1.set I (o.1, o.2.1, o.2.2.set kn v), g.2.2) id (kn : Int) v0 = 0 := by
    rw [setE, if_pos hmn]
    show (if findG (g.2.1.set I (o.1, o.2.1, o.2.2.set kn v)) id ≠ -1 ∧ _ then _ else _) = (0 : Int)
    rw [hon, hfi, if_pos ⟨by omega, by simp [hkl']⟩]
    show (if haveG _ ((fldsG g.1 o.2.1).getD (kn : Int).toNat ([], 0, [])) v0 = true then _ else _) = (0 : Int)
    rw [Int.toNat_natCast, if_pos hhv]
  refine ⟨I, kn, o, v0, hI, hgi, rfl, hkl', hv0, rfl, List.length_set, rfl, hat, List.getElem?_set_self hkl', hmn, hE, ?_⟩
  rw [setN, if_pos hE]
  show (g.1, (g.2.1.set I (o.1, o.2.1, o.2.2.set kn v)).set (findG (g.2.1.set I (o.1, o.2.1, o.2.2.set kn v)) id).toNat ((objG (g.2.1.set I (o.1, o.2.1, o.2.2.set kn v)) id).1, (objG (g.2.1.set I (o.1, o.2.1, o.2.2.set kn v)) id).2.1, (objG (g.2.1.set I (o.1, o.2.1, o.2.2.set kn v)) id).2.2.set (kn : Int).toNat v0), g.2.2) = g
  rw [hon, hfi, Int.toNat_natCast, Int.toNat_natCast]
  show (g.1, (g.2.1.set I (o.1, o.2.1, o.2.2.set kn v)).set I (o.1, o.2.1, (o.2.2.set kn v).set kn v0), g.2.2) = g
  rw [List.set_set, List.set_set, set_same hv0, set_same hgi]
end Go.Proofs.YtclbjbhpncpmbaaGreatDoor

/- A new object: by an Id that was not there; nothing comes to it, and all that was come to still is. No condition. -/
namespace Go.Proofs.YtclbjbhpncpmbaaGreatDoor

theorem new_none {g : Gr} (hm : mayG g = true) : findG g.2.1 (nextG g.2.1) = -1 := by
  rcases Classical.em (findG g.2.1 (nextG g.2.1) = -1) with h | h
  · exact h
  · obtain ⟨o, ho, e⟩ := findG_mem.1 h
    have := nextG_above hm o ho
    omega
theorem new_last {g : Gr} {o : Ob} (hm : mayG g = true) (ho : o.1 = nextG g.2.1) : findG (g.2.1 ++ [o]) (nextG g.2.1) = (g.2.1.length : Int) := by
  refine (idxP_iff _ _ g.2.1.length).2 ⟨⟨o, by simp, decide_eq_true ho⟩, fun j p hj hp => ?_⟩
  rw [List.getElem?_append_left hj] at hp
  have := nextG_above hm p (List.mem_of_getElem? hp)
  exact decide_eq_false (by omega)
theorem new_from {g : Gr} {o : Ob} (hm : mayG g = true) (ho : o.1 = nextG g.2.1) {id x : Int} (hid : ∃ p ∈ g.2.1, p.1 = id) (h : From (g.1, g.2.1 ++ [o], g.2.2) id x) : From g id x ∧ ∃ p ∈ g.2.1, p.1 = x := by
  induction h with
  | here => exact ⟨.here, hid⟩
  | step hf hq hr ih =>
    rename_i q r
    obtain ⟨h1, p, hp, e⟩ := ih
    have hq' : q ∈ g.2.1 := by
      rcases List.mem_append.1 hq with h | h
      · exact h
      · simp at h
        subst h
        have := nextG_above hm p hp
        omega
    have hr' : r ∈ refsG g.1 q := hr
    refine ⟨.step h1 hq' hr', ?_⟩
    obtain ⟨k, f, v, a1, a2, a3, a4, rfl⟩ := refsG_mem.1 hr'
    exact findG_mem.1 (haveG_ref ((mayG_obj hm hq').have' k f v a1 a2) a3 a4).1
theorem new_come {g : Gr} {o : Ob} (hm : mayG g = true) (ho : o.1 = nextG g.2.1) (x : Int) : ComeG (g.1, g.2.1 ++ [o], g.2.2) x ↔ ComeG g x := by
  constructor
  · rintro ⟨id, h1, h2, h3⟩
    have := (mayG_parts hm).2.2.2.2 id h1
    rw [rootG, Bool.or_eq_true, decide_eq_true_eq, decide_eq_true_eq] at this
    exact ⟨id, h1, h2, (new_from hm ho (findG_mem.1 (this.resolve_left h2)) h3).1⟩
  · rintro ⟨id, h1, h2, h3⟩
    refine ⟨id, h1, h2, ?_⟩
    induction h3 with
    | here => exact .here
    | step _ hq hr ih => exact .step ih (List.mem_append_left _ hq) hr
theorem new_reach {g : Gr} {t : Int} (h : newE g t = 0) : (reachG (newG g t)).length = (reachG g).length := by
  obtain ⟨hm, -, -, -⟩ := newE_0 h
  have hmn := newG_may h
  rw [newG, if_pos h] at hmn ⊢
  rw [reachG, reachG, List.length_map, List.length_map, sweepG_yes hm, sweepG_yes hmn]
  show (List.filter _ (g.2.1 ++ _)).length = (List.filter _ g.2.1).length
  rw [List.filter_append, List.length_append]
  have e1 : g.2.1.filter (fun o => @decide (ComeG (g.1, g.2.1 ++ [((nextG g.2.1, t, (fldsG g.1 t).map fun f => zeroV f.2.1) : Ob)], g.2.2) o.1) (Classical.propDecidable _)) = g.2.1.filter (fun o => @decide (ComeG g o.1) (Classical.propDecidable _)) :=
    List.filter_congr fun o _ => by simp [new_come hm]
  have e2 : ([((nextG g.2.1, t, (fldsG g.1 t).map fun f => zeroV f.2.1) : Ob)] : List Ob).filter (fun o => @decide (ComeG (g.1, g.2.1 ++ [((nextG g.2.1, t, (fldsG g.1 t).map fun f => zeroV f.2.1) : Ob)], g.2.2) o.1) (Classical.propDecidable _)) = [] := by
    refine List.filter_eq_nil_iff.2 fun o ho => ?_
    simp at ho
    subst ho
    simp only [decide_eq_true_eq, new_come hm]
    intro hc
    obtain ⟨p, hp, e⟩ := come_is hm hc
    have := nextG_above hm p hp
    have e' : p.1 = nextG g.2.1 := e
    omega
  rw [e1, e2]
  rfl
/-- Why there is none. -/
theorem new_why {g : Gr} {t : Int} (hm : mayG g = true) (ht : 0 ≤ t ∧ t < (g.1.length : Int)) (h : newE g t ≠ 0) : g.2.1.length = 8 ∨ ∃ o, g.2.1[g.2.1.length - 1]? = some o ∧ o.1 = 1073741824 := by
  rw [newE, if_pos hm, if_pos (by simp [ht])] at h
  split at h
  · rename_i h1
    rcases h1 with h1 | h1
    · exact .inl h1
    · refine .inr ?_
      by_cases h0 : g.2.1 = []
      · rw [h0, nextG_nil] at h1; omega
      · obtain ⟨q, hq⟩ : ∃ q, g.2.1[g.2.1.length - 1]? = some q := ⟨_, List.getElem?_eq_getElem (by have := List.length_pos_iff.2 h0; omega)⟩
        rw [nextG_last hq] at h1
        have := (mayG_obj hm (List.mem_of_getElem? hq)).id1
        exact ⟨q, hq, by omega⟩
  · exact absurd rfl h
theorem new_type {g : Gr} {t : Int} (hm : mayG g = true) (ht : ¬ (0 ≤ t ∧ t < (g.1.length : Int))) : newE g t = 6 := by
  rw [newE, if_pos hm, if_neg (by simpa using ht)]
end Go.Proofs.YtclbjbhpncpmbaaGreatDoor

/- What is come to by so many leaps, on plain data: as many as there are objects are enough. No condition. -/
namespace Go.Proofs.YtclbjbhpncpmbaaGreatDoor

/-- A Ref, at a field of an object that is marked, that leads to the place j. -/
def Lead (g : Gr) (bs : List Bool) (i : Nat) (o : Ob) (k : Nat) (f : Fld) (v : Vl) (j : Nat) : Prop :=
  g.2.1[i]? = some o ∧ bs[i]? = some true ∧ (fldsG g.1 o.2.1)[k]? = some f ∧ o.2.2[k]? = some v ∧ f.2.1 = 5 ∧ 0 ≤ v.2.2 ∧ findG g.2.1 v.2.2 = (j : Int)
/-- One leap more, so far: up to the field k of the object i. -/
structure LeapI (g : Gr) (bs cur : List Bool) (i k : Nat) : Prop where
  len : cur.length = bs.length
  mem : ∀ j : Nat, cur[j]? = some true ↔ (bs[j]? = some true ∨ ∃ i' o k' f v, (i' < i ∨ (i' = i ∧ k' < k)) ∧ Lead g bs i' o k' f v j)
structure Leap (g : Gr) (bs cur : List Bool) : Prop where
  len : cur.length = bs.length
  mem : ∀ j : Nat, cur[j]? = some true ↔ (bs[j]? = some true ∨ ∃ i' o k' f v, Lead g bs i' o k' f v j)
theorem LeapI.start (g : Gr) (bs : List Bool) : LeapI g bs bs 0 0 := ⟨rfl, fun j => ⟨.inl, fun h => h.elim id fun ⟨i', _, _, _, _, h, _⟩ => by omega⟩⟩
theorem LeapI.skip {g : Gr} {bs cur : List Bool} {i k : Nat} (h : LeapI g bs cur i k) (hn : ∀ o f v j, ¬ Lead g bs i o k f v j) : LeapI g bs cur i (k + 1) := by
  refine ⟨h.len, fun j => (h.mem j).trans (or_congr Iff.rfl ⟨?_, ?_⟩)⟩
  · rintro ⟨i', o, k', f, v, hk, hl⟩
    exact ⟨i', o, k', f, v, by omega, hl⟩
  · rintro ⟨i', o, k', f, v, hk, hl⟩
    by_cases he : i' = i ∧ k' = k
    · obtain ⟨rfl, rfl⟩ := he
      exact absurd hl (hn o f v j)
    · exact ⟨i', o, k', f, v, by omega, hl⟩
theorem LeapI.take {g : Gr} {bs cur : List Bool} {i k J : Nat} {o : Ob} {f : Fld} {v : Vl} (h : LeapI g bs cur i k) (hl : Lead g bs i o k f v J) (hJ : J < cur.length) : LeapI g bs (cur.set J true) i (k + 1) := by
  refine ⟨by rw [List.length_set]; exact h.len, fun j => ?_⟩
  by_cases hj : j = J
  · subst hj
    rw [List.getElem?_set_self hJ]
    exact ⟨fun _ => .inr ⟨i, o, k, f, v, by omega, hl⟩, fun _ => rfl⟩
  · rw [List.getElem?_set_ne (fun e => hj e.symm), h.mem j]
    refine or_congr Iff.rfl ⟨?_, ?_⟩
    · rintro ⟨i', o', k', f', v', hk, hl'⟩
      exact ⟨i', o', k', f', v', by omega, hl'⟩
    · rintro ⟨i', o', k', f', v', hk, hl'⟩
      by_cases he : i' = i ∧ k' = k
      · obtain ⟨rfl, rfl⟩ := he
        obtain ⟨a1, a2, a3, a4, a5, a6, a7⟩ := hl
        obtain ⟨b1, b2, b3, b4, b5, b6, b7⟩ := hl'
        rw [a1] at b1
        injection b1 with b1
        subst b1
        rw [a4] at b4
        injection b4 with b4
        subst b4
        rw [a7] at b7
        exact absurd (by omega) hj
      · exact ⟨i', o', k', f', v', by omega, hl'⟩
theorem LeapI.next {g : Gr} {bs cur : List Bool} {i k : Nat} {o : Ob} (h : LeapI g bs cur i k) (ho : g.2.1[i]? = some o) (hk : o.2.2.length ≤ k) : LeapI g bs cur (i + 1) 0 := by
  refine ⟨h.len, fun j => (h.mem j).trans (or_congr Iff.rfl ⟨?_, ?_⟩)⟩
  · rintro ⟨i', o', k', f, v, hk', hl⟩
    exact ⟨i', o', k', f, v, by omega, hl⟩
  · rintro ⟨i', o', k', f, v, hk', hl⟩
    refine ⟨i', o', k', f, v, ?_, hl⟩
    by_cases hi : i' < i
    · exact .inl hi
    · obtain rfl : i' = i := by omega
      obtain ⟨a1, a2, a3, a4, -⟩ := hl
      rw [ho] at a1
      injection a1 with a1
      subst a1
      have := (List.getElem?_eq_some_iff.1 a4).1
      exact .inr ⟨rfl, by omega⟩
theorem LeapI.all {g : Gr} {bs cur : List Bool} {i : Nat} (h : LeapI g bs cur i 0) (hi : g.2.1.length ≤ i) : Leap g bs cur := by
  refine ⟨h.len, fun j => (h.mem j).trans (or_congr Iff.rfl ⟨?_, ?_⟩)⟩
  · rintro ⟨i', o', k', f, v, hk', hl⟩
    exact ⟨i', o', k', f, v, hl⟩
  · rintro ⟨i', o', k', f, v, hl⟩
    exact ⟨i', o', k', f, v, .inl (by have := (List.getElem?_eq_some_iff.1 hl.1).1; omega), hl⟩

theorem count_le : ∀ {bs cs : List Bool}, bs.length = cs.length → (∀ j : Nat, bs[j]? = some true → cs[j]? = some true) → bs.count true ≤ cs.count true
  | [], cs, _, _ => by simp
  | b :: bs, [], h, _ => by simp at h
  | b :: bs, c :: cs, h, hm => by
    have ih := count_le (bs := bs) (cs := cs) (by simpa using h) (fun j hj => by simpa using hm (j + 1) (by simpa using hj))
    have h0 := hm 0
    simp at h0
    cases b <;> cases c <;> simp_all <;> omega
theorem count_lt : ∀ {bs cs : List Bool}, bs.length = cs.length → (∀ j : Nat, bs[j]? = some true → cs[j]? = some true) → (∃ j : Nat, cs[j]? = some true ∧ bs[j]? ≠ some true) → bs.count true < cs.count true
  | [], cs, h, _, ⟨j, hj, _⟩ => by
    have : cs = [] := List.eq_nil_of_length_eq_zero (by simpa using h.symm)
    subst this
    simp at hj
  | b :: bs, [], h, _, _ => by simp at h
  | b :: bs, c :: cs, h, hm, ⟨j, hj, hn⟩ => by
    have hl : bs.length = cs.length := by simpa using h
    have hm' : ∀ j : Nat, bs[j]? = some true → cs[j]? = some true := fun j hj => by simpa using hm (j + 1) (by simpa using hj)
    have h0 := hm 0
    simp at h0
    cases j with
    | zero =>
      have := count_le hl hm'
      simp at hj hn
      subst hj
      cases b
      · simp; omega
      · simp at hn
    | succ j =>
      have := count_lt hl hm' ⟨j, by simpa using hj, by simpa using hn⟩
      cases b <;> cases c <;> simp_all <;> omega
/-- Nothing leads out of those that are marked. -/
def Shut (g : Gr) (bs : List Bool) : Prop := ∀ (i : Nat) o (k : Nat) f v, g.2.1[i]? = some o → bs[i]? = some true → (fldsG g.1 o.2.1)[k]? = some f → o.2.2[k]? = some v → f.2.1 = 5 → 0 ≤ v.2.2 → bs[(findG g.2.1 v.2.2).toNat]? = some true
/-- Behind t leaps. -/
structure Leaps (g : Gr) (bs : List Bool) (t : Nat) : Prop where
  len : bs.length = g.2.1.length
  only : ∀ (i : Nat) o, g.2.1[i]? = some o → bs[i]? = some true → ComeG g o.1
  roots : ∀ r ∈ g.2.2, 0 ≤ r → bs[(findG g.2.1 r).toNat]? = some true
  shut : Shut g bs ∨ t ≤ bs.count true
theorem Leaps.step {g : Gr} (hm : mayG g = true) {bs cs : List Bool} {t : Nat} (h : Leaps g bs t) (hl : Leap g bs cs) : Leaps g cs (t + 1) := by
  have hlen : bs.length = cs.length := hl.len.symm
  have hsub : ∀ j : Nat, bs[j]? = some true → cs[j]? = some true := fun j hj => (hl.mem j).2 (.inl hj)
  refine ⟨hl.len.trans h.len, fun i o ho hc => ?_, fun r hr h0 => hsub _ (h.roots r hr h0), ?_⟩
  · rcases (hl.mem i).1 hc with hb | ⟨i', o', k, f, v, a1, a2, a3, a4, a5, a6, a7⟩
    · exact h.only i o ho hb
    · obtain ⟨hc', -⟩ := come_ref hm (List.mem_of_getElem? a1) (h.only i' o' a1 a2) a3 a4 a5 (by omega)
      obtain ⟨i2, p, e1, e2, e3, -⟩ := findG_at (os := g.2.1) (id := v.2.2) (by rw [a7]; omega)
      rw [a7] at e1
      obtain rfl : i = i2 := by omega
      rw [ho] at e2
      injection e2 with e2
      subst e2
      rw [e3]
      exact hc'
  · by_cases hs : Shut g bs
    · have hsame : ∀ j : Nat, cs[j]? = some true ↔ bs[j]? = some true := fun j => ⟨fun hc => by
        rcases (hl.mem j).1 hc with hb | ⟨i', o', k, f, v, a1, a2, a3, a4, a5, a6, a7⟩
        · exact hb
        · have := hs i' o' k f v a1 a2 a3 a4 a5 a6
          rwa [a7, Int.toNat_natCast] at this, hsub j⟩
      exact .inl fun i o k f v a1 a2 a3 a4 a5 a6 => (hsame _).2 (hs i o k f v a1 ((hsame i).1 a2) a3 a4 a5 a6)
    · have ht := h.shut.resolve_left hs
      refine .inr (Nat.lt_of_le_of_lt ht (count_lt hlen hsub ?_))
      rcases Classical.em (∃ j : Nat, cs[j]? = some true ∧ bs[j]? ≠ some true) with hh | hh
      · exact hh
      · refine absurd (fun i o k f v a1 a2 a3 a4 a5 a6 => ?_) hs
        obtain ⟨I, p, e1, e2, e3, -⟩ := findG_at (haveG_ref ((mayG_obj hm (List.mem_of_getElem? a1)).have' k f v a3 a4) a5 (by omega)).1
        have hc := (hl.mem I).2 (.inr ⟨i, o, k, f, v, a1, a2, a3, a4, a5, a6, e1⟩)
        rcases Classical.em (bs[I]? = some true) with hb | hb
        · rw [e1, Int.toNat_natCast]; exact hb
        · exact absurd ⟨I, hc, hb⟩ hh
theorem Leaps.all {g : Gr} (hm : mayG g = true) {bs : List Bool} {t : Nat} (h : Leaps g bs t) (ht : g.2.1.length ≤ t) {i : Nat} {o : Ob} (ho : g.2.1[i]? = some o) : bs[i]? = some true ↔ ComeG g o.1 := by
  have hs : Shut g bs := by
    rcases h.shut with hs | hs
    · exact hs
    · have hc : bs.count true = bs.length := Nat.le_antisymm (List.count_le_length) (by rw [h.len]; omega)
      have hall := List.count_eq_length.1 hc
      intro i o k f v a1 a2 a3 a4 a5 a6
      obtain ⟨I, p, e1, e2, e3, -⟩ := findG_at (haveG_ref ((mayG_obj hm (List.mem_of_getElem? a1)).have' k f v a3 a4) a5 (by omega)).1
      have hI : I < bs.length := by rw [h.len]; exact (List.getElem?_eq_some_iff.1 e2).1
      rw [e1, Int.toNat_natCast, List.getElem?_eq_getElem hI, ← hall _ (List.getElem_mem hI)]
  refine ⟨h.only i o ho, fun hc => ?_⟩
  have := least_come hm (some := bs) h.roots hs hc
  obtain ⟨I, p, e1, e2, e3, -⟩ := findG_at (findG_mem.2 ⟨o, List.mem_of_getElem? ho, rfl⟩)
  have hpo := mayG_apart hm (List.mem_of_getElem? e2) (List.mem_of_getElem? ho) e3
  subst hpo
  have hII : I = i := by
    have hs2 := mayG_sorted hm
    rw [List.pairwise_iff_getElem] at hs2
    have l1 := (List.getElem?_eq_some_iff.1 e2).1
    have l2 := (List.getElem?_eq_some_iff.1 ho).1
    rcases Nat.lt_trichotomy I i with hlt | rfl | hlt
    · have := hs2 I i l1 l2 hlt
      rw [(List.getElem?_eq_some_iff.1 e2).2, (List.getElem?_eq_some_iff.1 ho).2] at this
      omega
    · rfl
    · have := hs2 i I l2 l1 hlt
      rw [(List.getElem?_eq_some_iff.1 e2).2, (List.getElem?_eq_some_iff.1 ho).2] at this
      omega
  rw [e1, Int.toNat_natCast, hII] at this
  exact this
theorem lref_at {g : Gr} (hm : mayG g = true) {o : Ob} (ho : o ∈ g.2.1) {k : Nat} {f : Fld} {v : Vl} (hf : (fldsG g.1 o.2.1)[k]? = some f) (hv : o.2.2[k]? = some v) (h5 : f.2.1 = 5) (h0 : 0 ≤ v.2.2) : ∃ I : Nat, findG g.2.1 v.2.2 = (I : Int) ∧ I < g.2.1.length := by
  obtain ⟨I, o, h1, h2, -, -⟩ := findG_at (haveG_ref ((mayG_obj hm ho).have' k f v hf hv) h5 (by omega)).1
  exact ⟨I, h1, (List.getElem?_eq_some_iff.1 h2).1⟩
theorem lroot_at {g : Gr} (hm : mayG g = true) {r : Int} (hr : r ∈ g.2.2) (h0 : 0 ≤ r) : ∃ I : Nat, findG g.2.1 r = (I : Int) ∧ I < g.2.1.length := by
  have := (mayG_parts hm).2.2.2.2 r hr
  rw [rootG, Bool.or_eq_true, decide_eq_true_eq, decide_eq_true_eq] at this
  obtain ⟨I, o, h1, h2, -, -⟩ := findG_at (this.resolve_left (by omega))
  exact ⟨I, h1, (List.getElem?_eq_some_iff.1 h2).1⟩
end Go.Proofs.YtclbjbhpncpmbaaGreatDoor

/- The texts CaPlain, CaRen, CaMore, CaSet, CaQ in one; what each proves, and its conditions, stands before it. -/
/- The order in which objects are met, and the one graph of all that are alike, on plain data. No condition. -/
namespace Go.Proofs.YtclbjbhpncpmbaaGreatDoor

/-- A list with an id behind, if it is one that is not there yet. -/
def metL (l : List Int) (id : Int) : List Int := if id < 0 ∨ id ∈ l then l else l ++ [id]
/-- What an object's Refs lead to, in order (none: below 0). -/
def refsL (s : Sch) (o : Ob) : List Int := ((fldsG s o.2.1).zip o.2.2).filterMap fun p => if p.1.2.1 = 5 then some p.2.2.2 else none
/-- From the place i on, so many objects. -/
def ordN (g : Gr) : Nat → List Int → Nat → List Int
  | 0, l, _ => l
  | n + 1, l, i => match l[i]? with
    | none => l
    | some id => ordN g n ((refsL g.1 (objG g.2.1 id)).foldl metL l) (i + 1)
def ordG (g : Gr) : List Int := if mayG g = true then ordN g 8 (g.2.2.foldl metL []) 0 else []
/-- Where a number is. -/
def atL (l : List Int) (n : Int) : Int := idxP (fun x => decide (x = n)) l
/-- Values with Refs led elsewhere. -/
def leadV (f : Int → Int) : List Fld → List Vl → List Vl
  | a :: fs, v :: vs => (if a.2.1 = 5 then (v.1, v.2.1, f v.2.2) else v) :: leadV f fs vs
  | [], vs => vs
  | _ :: _, [] => []
/-- The object at a place of a Canon. -/
def canO (g : Gr) (l : List Int) (i : Nat) (id : Int) : Ob := ((i : Int), (objG g.2.1 id).2.1, leadV (atL l) (fldsG g.1 (objG g.2.1 id).2.1) (objG g.2.1 id).2.2)
def canonG (g : Gr) : Gr := if mayG g = true then (g.1, (ordG g).mapIdx (canO g (ordG g)), g.2.2.map (atL (ordG g))) else ([], [], [])
/-- Are two alike? -/
def isoG (a b : Gr) : Bool := mayG a && mayG b && decide (canonG a = canonG b)

theorem metL_sub (l : List Int) (id : Int) : ∀ x ∈ l, x ∈ metL l id := by
  intro x hx
  rw [metL]
  split
  · exact hx
  · exact List.mem_append_left _ hx
theorem metL_mem {l : List Int} {id x : Int} : x ∈ metL l id ↔ x ∈ l ∨ (x = id ∧ 0 ≤ id) := by
  rw [metL]
  split
  · rename_i h
    constructor
    · exact .inl
    · rintro (h1 | ⟨rfl, h2⟩)
      · exact h1
      · rcases h with h | h
        · omega
        · exact h
  · rename_i h
    simp only [List.mem_append, List.mem_singleton]
    constructor
    · rintro (h1 | rfl)
      · exact .inl h1
      · exact .inr ⟨rfl, by omega⟩
    · rintro (h1 | ⟨rfl, h2⟩)
      · exact .inl h1
      · exact .inr rfl
theorem metL_nodup {l : List Int} {id : Int} (h : l.Nodup) : (metL l id).Nodup := by
  rw [metL]
  split
  · exact h
  · rename_i hn
    rw [List.nodup_append]
    refine ⟨h, by simp, fun a ha b hb => ?_⟩
    simp at hb
    subst hb
    intro e
    subst e
    exact hn (.inr ha)
theorem mets_mem : ∀ {rs l : List Int} {x : Int}, x ∈ rs.foldl metL l ↔ x ∈ l ∨ (x ∈ rs ∧ 0 ≤ x)
  | [], l, x => by simp
  | r :: rs, l, x => by
    rw [List.foldl_cons, mets_mem, metL_mem]
    simp only [List.mem_cons]
    constructor
    · rintro ((h | ⟨rfl, h⟩) | h)
      · exact .inl h
      · exact .inr ⟨.inl rfl, h⟩
      · exact .inr ⟨.inr h.1, h.2⟩
    · rintro (h | ⟨rfl | h, h2⟩)
      · exact .inl (.inl h)
      · exact .inl (.inr ⟨rfl, h2⟩)
      · exact .inr ⟨h, h2⟩
theorem mets_nodup : ∀ {rs l : List Int}, l.Nodup → (rs.foldl metL l).Nodup
  | [], _, h => h
  | _ :: rs, _, h => mets_nodup (rs := rs) (metL_nodup h)
/-- As many at most. -/
theorem nodup_le : ∀ {l m : List Int}, l.Nodup → (∀ x ∈ l, x ∈ m) → l.length ≤ m.length
  | [], _, _, _ => Nat.zero_le _
  | a :: l, m, hn, hs => by
    obtain ⟨h1, h2⟩ := List.nodup_cons.1 hn
    have ha := hs a (List.mem_cons_self ..)
    have ih := nodup_le (l := l) (m := m.erase a) h2 fun x hx => (List.mem_erase_of_ne (fun (e : x = a) => h1 (by rw [← e]; exact hx))).2 (hs x (List.mem_cons_of_mem _ hx))
    rw [List.length_erase_of_mem ha] at ih
    have := List.length_pos_of_mem ha
    simp only [List.length_cons]
    omega
theorem metL_pre (l : List Int) (id : Int) : ∃ m, metL l id = l ++ m := by
  rw [metL]
  split
  · exact ⟨[], by simp⟩
  · exact ⟨[id], rfl⟩
/-- What was met stays where it was. -/
theorem mets_pre : ∀ (rs l : List Int), ∃ m, rs.foldl metL l = l ++ m
  | [], l => ⟨[], by simp⟩
  | r :: rs, l => by
    obtain ⟨m, hm⟩ := metL_pre l r
    obtain ⟨m2, hm2⟩ := mets_pre rs (metL l r)
    exact ⟨m ++ m2, by rw [List.foldl_cons, hm2, hm, List.append_assoc]⟩
theorem ordN_pre (g : Gr) : ∀ (n : Nat) (l : List Int) (i : Nat), ∃ m, ordN g n l i = l ++ m
  | 0, l, i => ⟨[], by simp [ordN]⟩
  | n + 1, l, i => by
    rw [ordN]
    split
    · exact ⟨[], by simp⟩
    · rename_i id _
      obtain ⟨m, hm⟩ := mets_pre (refsL g.1 (objG g.2.1 id)) l
      obtain ⟨m2, hm2⟩ := ordN_pre g n ((refsL g.1 (objG g.2.1 id)).foldl metL l) (i + 1)
      exact ⟨m ++ m2, by rw [hm2, hm, List.append_assoc]⟩
theorem ordN_nodup (g : Gr) : ∀ {n : Nat} {l : List Int} {i : Nat}, l.Nodup → (ordN g n l i).Nodup
  | 0, l, i, h => h
  | n + 1, l, i, h => by
    rw [ordN]
    split
    · exact h
    · exact ordN_nodup g (mets_nodup h)
theorem refsL_mem {s : Sch} {o : Ob} {r : Int} : r ∈ refsL s o ↔ ∃ (k : Nat) (f : Fld) (v : Vl), (fldsG s o.2.1)[k]? = some f ∧ o.2.2[k]? = some v ∧ f.2.1 = 5 ∧ v.2.2 = r := by
  rw [refsL, List.mem_filterMap]
  constructor
  · rintro ⟨⟨f, v⟩, hp, hr⟩
    obtain ⟨k, hk⟩ := List.getElem?_of_mem hp
    rw [List.getElem?_zip_eq_some] at hk
    simp only at hr
    split at hr
    · rename_i hc
      injection hr with hr
      exact ⟨k, f, v, hk.1, hk.2, hc, hr⟩
    · cases hr
  · rintro ⟨k, f, v, h1, h2, h3, h5⟩
    refine ⟨(f, v), List.mem_of_getElem? (List.getElem?_zip_eq_some.2 ⟨h1, h2⟩), ?_⟩
    simp only [h3, h5, if_true]
/-- All that is met has a property that roots have, and that goes along Refs. -/
theorem ordN_all {g : Gr} {P : Int → Prop} (hstep : ∀ id, P id → ∀ r ∈ refsL g.1 (objG g.2.1 id), 0 ≤ r → P r) : ∀ {n : Nat} {l : List Int} {i : Nat}, (∀ x ∈ l, P x) → ∀ x ∈ ordN g n l i, P x
  | 0, l, i, h => h
  | n + 1, l, i, h => by
    rw [ordN]
    split
    · exact h
    · rename_i id hid
      refine ordN_all hstep fun x hx => ?_
      rcases mets_mem.1 hx with h1 | ⟨h1, h2⟩
      · exact h x h1
      · exact hstep id (h id (List.mem_of_getElem? hid)) x h1 h2
/-- Behind enough objects nothing leads out. -/
theorem ordN_shut {g : Gr} {P : Int → Prop} {B : Nat} (hstep : ∀ id, P id → ∀ r ∈ refsL g.1 (objG g.2.1 id), 0 ≤ r → P r) (hB : ∀ l : List Int, l.Nodup → (∀ x ∈ l, P x) → l.length ≤ B) :
    ∀ {n : Nat} {l : List Int} {i : Nat}, l.Nodup → (∀ x ∈ l, P x) → B ≤ i + n → (∀ (j : Nat) id, j < i → l[j]? = some id → ∀ r ∈ refsL g.1 (objG g.2.1 id), 0 ≤ r → r ∈ l) → ∀ id ∈ ordN g n l i, ∀ r ∈ refsL g.1 (objG g.2.1 id), 0 ≤ r → r ∈ ordN g n l i
  | 0, l, i, hn, hP, hi, hc => by
    intro id hid r hr h0
    obtain ⟨j, hj⟩ := List.getElem?_of_mem hid
    have := (List.getElem?_eq_some_iff.1 hj).1
    have := hB l hn hP
    exact hc j id (by simp only [ordN] at *; omega) hj r hr h0
  | n + 1, l, i, hn, hP, hi, hc => by
    rw [ordN]
    split
    · rename_i h1
      intro id hid r hr h0
      obtain ⟨j, hj⟩ := List.getElem?_of_mem hid
      have h2 := (List.getElem?_eq_some_iff.1 hj).1
      have h3 := List.getElem?_eq_none_iff.1 h1
      exact hc j id (by omega) hj r hr h0
    · rename_i id hid
      have hP' : ∀ x ∈ (refsL g.1 (objG g.2.1 id)).foldl metL l, P x := fun x hx => by
        rcases mets_mem.1 hx with h1 | ⟨h1, h2⟩
        · exact hP x h1
        · exact hstep id (hP id (List.mem_of_getElem? hid)) x h1 h2
      refine ordN_shut hstep hB (mets_nodup hn) hP' (by omega) fun j x hj hx r hr h0 => ?_
      obtain ⟨m, hm⟩ := mets_pre (refsL g.1 (objG g.2.1 id)) l
      have hil := (List.getElem?_eq_some_iff.1 hid).1
      rw [hm, List.getElem?_append_left (by omega)] at hx
      by_cases hji : j < i
      · exact mets_mem.2 (.inl (hc j x hji hx r hr h0))
      · obtain rfl : j = i := by omega
        rw [hid] at hx
        injection hx with hx
        subst hx
        exact mets_mem.2 (.inr ⟨hr, h0⟩)
/-- A graph's ids. -/
def IdG (g : Gr) (x : Int) : Prop := ∃ o ∈ g.2.1, o.1 = x
theorem obj_of {g : Gr} (hm : mayG g = true) {o : Ob} (ho : o ∈ g.2.1) : objG g.2.1 o.1 = o := by
  obtain ⟨i, p, h1, h2, h3, -⟩ := findG_at (findG_mem.2 ⟨o, ho, rfl⟩)
  rw [objG_at h1 h2]
  exact mayG_apart hm (List.mem_of_getElem? h2) ho h3
theorem refs_step {g : Gr} (hm : mayG g = true) (id : Int) (h : IdG g id) : ∀ r ∈ refsL g.1 (objG g.2.1 id), 0 ≤ r → IdG g r := by
  obtain ⟨o, ho, rfl⟩ := h
  rw [obj_of hm ho]
  intro r hr h0
  obtain ⟨k, f, v, h1, h2, h3, rfl⟩ := refsL_mem.1 hr
  exact findG_mem.1 (haveG_ref ((mayG_obj hm ho).have' k f v h1 h2) h3 (by omega)).1
theorem root_id {g : Gr} (hm : mayG g = true) {r : Int} (hr : r ∈ g.2.2) (h0 : 0 ≤ r) : IdG g r := by
  have := (mayG_parts hm).2.2.2.2 r hr
  rw [rootG, Bool.or_eq_true, decide_eq_true_eq, decide_eq_true_eq] at this
  exact findG_mem.1 (this.resolve_left (by omega))
theorem ids_few {g : Gr} (hm : mayG g = true) (l : List Int) (hn : l.Nodup) (h : ∀ x ∈ l, IdG g x) : l.length ≤ 8 := by
  have h1 : l.length ≤ (g.2.1.map (·.1)).length := by
    refine nodup_le hn fun x hx => ?_
    obtain ⟨o, ho, e⟩ := h x hx
    exact List.mem_map.2 ⟨o, ho, e⟩
  rw [List.length_map] at h1
  have := (mayG_parts hm).2.1
  omega
theorem ordG_yes {g : Gr} (hm : mayG g = true) : ordG g = ordN g 8 (g.2.2.foldl metL []) 0 := if_pos hm
theorem roots_ids {g : Gr} (hm : mayG g = true) : ∀ x ∈ g.2.2.foldl metL [], IdG g x := fun x hx => by
  rcases mets_mem.1 hx with h | ⟨h1, h2⟩
  · simp at h
  · exact root_id hm h1 h2
theorem ordG_nodup {g : Gr} (hm : mayG g = true) : (ordG g).Nodup := by rw [ordG_yes hm]; exact ordN_nodup g (mets_nodup (by simp))
theorem ordG_ids {g : Gr} (hm : mayG g = true) : ∀ x ∈ ordG g, IdG g x := by rw [ordG_yes hm]; exact ordN_all (refs_step hm) (roots_ids hm)
theorem ordG_few {g : Gr} (hm : mayG g = true) : (ordG g).length ≤ 8 := ids_few hm _ (ordG_nodup hm) (ordG_ids hm)
theorem ordG_root {g : Gr} (hm : mayG g = true) {r : Int} (hr : r ∈ g.2.2) (h0 : 0 ≤ r) : r ∈ ordG g := by
  rw [ordG_yes hm]
  obtain ⟨m, e⟩ := ordN_pre g 8 (g.2.2.foldl metL []) 0
  rw [e]
  exact List.mem_append_left _ (mets_mem.2 (.inr ⟨hr, h0⟩))
theorem ordG_shut {g : Gr} (hm : mayG g = true) : ∀ id ∈ ordG g, ∀ r ∈ refsL g.1 (objG g.2.1 id), 0 ≤ r → r ∈ ordG g := by
  rw [ordG_yes hm]
  exact ordN_shut (refs_step hm) (ids_few hm) (mets_nodup (by simp)) (roots_ids hm) (by omega) fun j id hj => by omega
theorem ordG_pos {g : Gr} (hm : mayG g = true) {x : Int} (hx : x ∈ ordG g) : 0 ≤ x := by
  obtain ⟨o, ho, rfl⟩ := ordG_ids hm x hx
  exact (mayG_obj hm ho).id0
theorem come_pos {g : Gr} (hm : mayG g = true) {x : Int} (h : ComeG g x) : 0 ≤ x := by
  obtain ⟨o, ho, rfl⟩ := come_is hm h
  exact (mayG_obj hm ho).id0
/-- What is met is what is come to. -/
theorem ordG_mem {g : Gr} (hm : mayG g = true) {x : Int} : x ∈ ordG g ↔ ComeG g x := by
  constructor
  · rw [ordG_yes hm]
    refine ordN_all (P := ComeG g) (fun id hc r hr h0 => ?_) (fun x hx => ?_) x
    · obtain ⟨o, ho, rfl⟩ := come_is hm hc
      rw [obj_of hm ho] at hr
      obtain ⟨k, f, v, h1, h2, h3, rfl⟩ := refsL_mem.1 hr
      exact (come_ref hm ho hc h1 h2 h3 (by omega)).1
    · rcases mets_mem.1 hx with h | ⟨h1, h2⟩
      · simp at h
      · exact ⟨x, h1, by omega, .here⟩
  · rintro ⟨id, h1, h2, h3⟩
    induction h3 with
    | here =>
      have := come_pos hm ⟨id, h1, h2, .here⟩
      exact ordG_root hm h1 this
    | step hf ho hr ih =>
      rename_i o r
      obtain ⟨k, f, v, a1, a2, a3, a4, rfl⟩ := refsG_mem.1 hr
      have hp := come_pos hm (x := v.2.2) ⟨id, h1, h2, .step hf ho hr⟩
      refine ordG_shut hm _ ih _ ?_ hp
      rw [obj_of hm ho]
      exact refsL_mem.2 ⟨k, f, v, a1, a2, a3, rfl⟩
theorem reach_nodup {g : Gr} (hm : mayG g = true) : (reachG g).Nodup := by
  rw [reachG]
  have h1 := (mayG_sorted (sweepG_may hm))
  exact (List.pairwise_map.2 (h1.imp fun h => by omega))
theorem ordG_len {g : Gr} (hm : mayG g = true) : (ordG g).length = (reachG g).length := by
  refine Nat.le_antisymm ?_ ?_
  · exact nodup_le (ordG_nodup hm) fun x hx => (reach_mem hm).2 ⟨(ordG_mem hm).1 hx, come_is hm ((ordG_mem hm).1 hx)⟩
  · exact nodup_le (reach_nodup hm) fun x hx => (ordG_mem hm).2 ((reach_mem hm).1 hx).1
end Go.Proofs.YtclbjbhpncpmbaaGreatDoor

/- With other ids, and the objects in another order, the Canon is the same; the Canon of a Canon is it. On plain data. No condition. -/
namespace Go.Proofs.YtclbjbhpncpmbaaGreatDoor

/-- Another id; below 0 none. -/
def ren (ρ : Int → Int) (r : Int) : Int := if r < 0 then r else ρ r
theorem ren_neg {ρ : Int → Int} {r : Int} (h : r < 0) : ren ρ r = r := if_pos h
theorem ren_pos {ρ : Int → Int} {r : Int} (h : 0 ≤ r) : ren ρ r = ρ r := if_neg (by omega)
/-- h is g by other ids, as far as S goes. -/
structure Ren (ρ : Int → Int) (S : Int → Prop) (g h : Gr) : Prop where
  sch : h.1 = g.1
  roots : h.2.2 = g.2.2.map (ren ρ)
  root : ∀ r ∈ g.2.2, 0 ≤ r → S r
  step : ∀ x, S x → ∀ r ∈ refsL g.1 (objG g.2.1 x), 0 ≤ r → S r
  inj : ∀ x y, S x → S y → ρ x = ρ y → x = y
  pos : ∀ x, S x → 0 ≤ ρ x
  obj : ∀ x, S x → (objG h.2.1 (ρ x)).2 = ((objG g.2.1 x).2.1, leadV (ren ρ) (fldsG g.1 (objG g.2.1 x).2.1) (objG g.2.1 x).2.2)

theorem refs_lead (f : Int → Int) : ∀ (fs : List Fld) (vs : List Vl), (fs.zip (leadV f fs vs)).filterMap (fun p => if p.1.2.1 = 5 then some p.2.2.2 else none) = ((fs.zip vs).filterMap (fun p => if p.1.2.1 = 5 then some p.2.2.2 else none)).map f
  | [], vs => by simp [leadV]
  | a :: fs, [] => by simp [leadV]
  | a :: fs, v :: vs => by
    rw [leadV, List.zip_cons_cons, List.zip_cons_cons, List.filterMap_cons, List.filterMap_cons, refs_lead f fs vs]
    by_cases h : a.2.1 = 5
    · simp [h]
    · simp [h]
theorem leadV_len (f : Int → Int) : ∀ (fs : List Fld) (vs : List Vl), fs.length = vs.length → (leadV f fs vs).length = vs.length
  | [], vs, _ => rfl
  | a :: fs, [], h => by simp at h
  | a :: fs, v :: vs, h => by rw [leadV, List.length_cons, leadV_len f fs vs (by simpa using h), List.length_cons]
theorem leadV_at (f : Int → Int) : ∀ {fs : List Fld} {vs : List Vl} {k : Nat} {a : Fld} {v : Vl}, fs[k]? = some a → vs[k]? = some v → (leadV f fs vs)[k]? = some (if a.2.1 = 5 then (v.1, v.2.1, f v.2.2) else v)
  | [], _, _, _, _, h, _ => by simp at h
  | _ :: _, [], _, _, _, _, h => by simp at h
  | a :: fs, v :: vs, 0, _, _, h1, h2 => by
    simp at h1 h2
    subst h1 h2
    rw [leadV]
    rfl
  | a :: fs, v :: vs, k + 1, _, _, h1, h2 => by
    rw [leadV, List.getElem?_cons_succ]
    exact leadV_at f (by simpa using h1) (by simpa using h2)
theorem leadV_two (f h : Int → Int) : ∀ (fs : List Fld) (vs : List Vl), leadV f fs (leadV h fs vs) = leadV (fun r => f (h r)) fs vs
  | [], vs => rfl
  | a :: fs, [] => rfl
  | a :: fs, v :: vs => by
    rw [leadV, leadV, leadV, leadV_two f h fs vs]
    by_cases e : a.2.1 = 5 <;> simp [e]
theorem leadV_congr {f h : Int → Int} : ∀ {fs : List Fld} {vs : List Vl}, (∀ (k : Nat) a v, fs[k]? = some a → vs[k]? = some v → a.2.1 = 5 → f v.2.2 = h v.2.2) → leadV f fs vs = leadV h fs vs
  | [], vs, _ => rfl
  | a :: fs, [], _ => rfl
  | a :: fs, v :: vs, hh => by
    rw [leadV, leadV, leadV_congr (fs := fs) (vs := vs) fun k a v h1 h2 => hh (k + 1) a v (by simpa using h1) (by simpa using h2)]
    by_cases e : a.2.1 = 5
    · rw [if_pos e, if_pos e, hh 0 a v rfl rfl e]
    · rw [if_neg e, if_neg e]
theorem idxP_map {α β : Type} (p : β → Bool) (f : α → β) : ∀ l : List α, idxP p (l.map f) = idxP (fun a => p (f a)) l
  | [] => rfl
  | a :: l => by rw [List.map_cons, idxP, idxP, idxP_map p f l]
theorem idxP_congr {α : Type} {p q : α → Bool} : ∀ {l : List α}, (∀ a ∈ l, p a = q a) → idxP p l = idxP q l
  | [], _ => rfl
  | a :: l, h => by rw [idxP, idxP, idxP_congr (l := l) fun b hb => h b (List.mem_cons_of_mem _ hb), h a (List.mem_cons_self ..)]
theorem atL_none {l : List Int} {r : Int} : atL l r = -1 ↔ r ∉ l := by
  rw [atL, idxP_none]
  constructor
  · intro h hr
    have := h r hr
    simp at this
  · intro h a ha
    exact decide_eq_false fun e => h (by rw [← e]; exact ha)
theorem atL_at {l : List Int} (hn : l.Nodup) {i : Nat} {x : Int} (h : l[i]? = some x) : atL l x = (i : Int) := by
  refine (idxP_iff _ l i).2 ⟨⟨x, h, decide_eq_true rfl⟩, fun j y hj hy => decide_eq_false fun e => ?_⟩
  subst e
  have h1 := (List.getElem?_eq_some_iff.1 h).1
  have := (List.getElem?_inj (by omega : j < l.length) hn).1 (hy.trans h.symm)
  omega
theorem atL_mem {l : List Int} {r : Int} (h : r ∈ l) : ∃ i : Nat, atL l r = (i : Int) ∧ l[i]? = some r := by
  have h0 := idxP_low (fun x => decide (x = r)) l
  have h1 : atL l r ≠ -1 := fun e => atL_none.1 e h
  obtain ⟨i, hi⟩ : ∃ i : Nat, atL l r = (i : Int) := ⟨(atL l r).toNat, by unfold atL at *; omega⟩
  obtain ⟨⟨x, hx, hp⟩, -⟩ := (idxP_iff _ l i).1 hi
  exact ⟨i, hi, by rw [hx, of_decide_eq_true hp]⟩

section
variable {ρ : Int → Int} {S : Int → Prop} {g h : Gr}
theorem Ren.met (R : Ren ρ S g h) {l : List Int} {r : Int} (hl : ∀ x ∈ l, S x) (hr : 0 ≤ r → S r) : metL (l.map ρ) (ren ρ r) = (metL l r).map ρ := by
  by_cases h0 : r < 0
  · rw [ren_neg h0, metL, metL, if_pos (.inl h0), if_pos (.inl h0)]
  · rw [ren_pos (by omega)]
    have hp := R.pos r (hr (by omega))
    by_cases hm : r ∈ l
    · rw [metL, metL, if_pos (.inr (List.mem_map_of_mem hm)), if_pos (.inr hm)]
    · rw [metL, metL, if_neg, if_neg (fun e => e.elim h0 hm), List.map_append]
      · rfl
      · rintro (e | e)
        · omega
        · obtain ⟨x, hx, e2⟩ := List.mem_map.1 e
          have := R.inj x r (hl x hx) (hr (by omega)) e2
          subst this
          exact hm hx
theorem Ren.mets (R : Ren ρ S g h) : ∀ {rs l : List Int}, (∀ x ∈ l, S x) → (∀ r ∈ rs, 0 ≤ r → S r) → (rs.map (ren ρ)).foldl metL (l.map ρ) = (rs.foldl metL l).map ρ
  | [], _, _, _ => rfl
  | r :: rs, l, hl, hr => by
    rw [List.map_cons, List.foldl_cons, List.foldl_cons, R.met hl (hr r (List.mem_cons_self ..))]
    refine R.mets (fun x hx => ?_) fun x hx => hr x (List.mem_cons_of_mem _ hx)
    rcases metL_mem.1 hx with h1 | ⟨rfl, h2⟩
    · exact hl x h1
    · exact hr x (List.mem_cons_self ..) h2
theorem Ren.refs (R : Ren ρ S g h) {x : Int} (hx : S x) : refsL h.1 (objG h.2.1 (ρ x)) = (refsL g.1 (objG g.2.1 x)).map (ren ρ) := by
  rw [refsL, refsL, R.obj x hx, R.sch]
  exact refs_lead _ _ _
theorem Ren.ordNs (R : Ren ρ S g h) : ∀ {n : Nat} {l : List Int} {i : Nat}, (∀ x ∈ l, S x) → ordN h n (l.map ρ) i = (ordN g n l i).map ρ
  | 0, _, _, _ => rfl
  | n + 1, l, i, hl => by
    rw [ordN, ordN, List.getElem?_map]
    cases hi : l[i]? with
    | none => rfl
    | some x =>
      have hx := hl x (List.mem_of_getElem? hi)
      show ordN h n _ _ = (ordN g n _ _).map ρ
      rw [R.refs hx, R.mets hl (fun r hr h0 => R.step x hx r hr h0)]
      refine R.ordNs fun y hy => ?_
      rcases mets_mem.1 hy with h1 | ⟨h1, h2⟩
      · exact hl y h1
      · exact R.step x hx y h1 h2
theorem Ren.order (R : Ren ρ S g h) (hg : mayG g = true) (hh : mayG h = true) : ordG h = (ordG g).map ρ := by
  rw [ordG_yes hg, ordG_yes hh, R.roots]
  have h0 : (g.2.2.map (ren ρ)).foldl metL [] = (g.2.2.foldl metL []).map ρ := R.mets (l := []) (fun x hx => by simp at hx) R.root
  rw [h0]
  refine R.ordNs fun x hx => ?_
  rcases mets_mem.1 hx with h1 | ⟨h1, h2⟩
  · simp at h1
  · exact R.root x h1 h2
theorem Ren.at (R : Ren ρ S g h) {l : List Int} (hl : ∀ x ∈ l, S x) (hp : ∀ x ∈ l, 0 ≤ x) {r : Int} (hr : 0 ≤ r → S r) : atL (l.map ρ) (ren ρ r) = atL l r := by
  by_cases h0 : r < 0
  · have e1 : atL l r = -1 := atL_none.2 fun e => by have := hp r e; omega
    have e2 : atL (l.map ρ) r = -1 := atL_none.2 fun e => by
      obtain ⟨x, hx, rfl⟩ := List.mem_map.1 e
      have := R.pos x (hl x hx)
      omega
    rw [ren_neg h0, e1, e2]
  · rw [ren_pos (by omega), atL, atL, idxP_map]
    refine idxP_congr fun x hx => ?_
    by_cases e : x = r
    · rw [decide_eq_true e, decide_eq_true (by rw [e])]
    · rw [decide_eq_false e, decide_eq_false (fun e2 => e (R.inj x r (hl x hx) (hr (by omega)) e2))]
/-- THE CANON IS THE SAME. -/
theorem Ren.canon (R : Ren ρ S g h) (hg : mayG g = true) (hh : mayG h = true) (hS : ∀ x ∈ ordG g, S x) : canonG h = canonG g := by
  have ho := R.order hg hh
  have hp : ∀ x ∈ ordG g, 0 ≤ x := fun x hx => ordG_pos hg hx
  rw [canonG, canonG, if_pos hg, if_pos hh, R.sch, ho]
  refine Prod.ext rfl (Prod.ext ?_ ?_)
  · refine List.ext_getElem? fun i => ?_
    show ((List.map ρ (ordG g)).mapIdx _)[i]? = ((ordG g).mapIdx _)[i]?
    rw [List.getElem?_mapIdx, List.getElem?_mapIdx, List.getElem?_map]
    cases hi : (ordG g)[i]? with
    | none => rfl
    | some x =>
      have hm := List.mem_of_getElem? hi
      have hx := hS x hm
      show some (canO h _ i (ρ x)) = some (canO g _ i x)
      rw [canO, canO, R.obj x hx, R.sch, leadV_two]
      refine congrArg some (Prod.ext rfl (Prod.ext rfl ?_))
      refine leadV_congr fun k a v h1 h2 h5 => ?_
      exact R.at hS hp fun h0 => R.step x hx _ (refsL_mem.2 ⟨k, a, v, h1, h2, h5, rfl⟩) h0
  · show h.2.2.map _ = g.2.2.map _
    rw [R.roots, List.map_map]
    refine List.map_congr_left fun r hr => ?_
    exact R.at hS hp fun h0 => R.root r hr h0
end

/-- What a Canon's objects are. -/
theorem canon_at {g : Gr} (hm : mayG g = true) {i : Nat} {x : Int} (h : (ordG g)[i]? = some x) : (canonG g).2.1[i]? = some (canO g (ordG g) i x) := by
  rw [canonG, if_pos hm]
  show ((ordG g).mapIdx _)[i]? = _
  rw [List.getElem?_mapIdx, h]
  rfl
theorem canon_len {g : Gr} (hm : mayG g = true) : (canonG g).2.1.length = (ordG g).length := by
  rw [canonG, if_pos hm]
  simp
theorem canon_find {g : Gr} (hm : mayG g = true) {i : Nat} (h : i < (ordG g).length) : findG (canonG g).2.1 (i : Int) = (i : Int) := by
  refine (idxP_iff _ _ i).2 ⟨⟨_, canon_at hm (List.getElem?_eq_getElem h), decide_eq_true rfl⟩, fun j b hj hb => ?_⟩
  rw [canon_at hm (List.getElem?_eq_getElem (by omega : j < (ordG g).length))] at hb
  injection hb with hb
  subst hb
  exact decide_eq_false (by show ¬ ((j : Int) = (i : Int)); omega)
theorem canon_obj {g : Gr} (hm : mayG g = true) {x : Int} (hx : x ∈ ordG g) : objG (canonG g).2.1 (atL (ordG g) x) = canO g (ordG g) (atL (ordG g) x).toNat x := by
  obtain ⟨i, h1, h2⟩ := atL_mem hx
  rw [h1, Int.toNat_natCast]
  exact objG_at (canon_find hm (List.getElem?_eq_some_iff.1 h2).1) (canon_at hm h2)
theorem may_neg {g : Gr} (hm : mayG g = true) {r : Int} (hr : r ∈ g.2.2) (h0 : r < 0) : r = -1 := by
  have := (mayG_parts hm).2.2.2.2 r hr
  rw [rootG, Bool.or_eq_true, decide_eq_true_eq, decide_eq_true_eq] at this
  rcases this with h | h
  · exact h
  · obtain ⟨o, ho, rfl⟩ := findG_mem.1 h
    have := (mayG_obj hm ho).id0
    omega
theorem ref_neg {g : Gr} (hm : mayG g = true) {o : Ob} (ho : o ∈ g.2.1) {k : Nat} {f : Fld} {v : Vl} (hf : (fldsG g.1 o.2.1)[k]? = some f) (hv : o.2.2[k]? = some v) (h5 : f.2.1 = 5) (h0 : v.2.2 < 0) : v.2.2 = -1 := by
  rcases Classical.em (v.2.2 = -1) with h | h
  · exact h
  · obtain ⟨p, hp, e⟩ := findG_mem.1 (haveG_ref ((mayG_obj hm ho).have' k f v hf hv) h5 h).1
    have := (mayG_obj hm hp).id0
    omega
theorem ord_obj {g : Gr} (hm : mayG g = true) {x : Int} (hx : x ∈ ordG g) : ∃ o ∈ g.2.1, o.1 = x ∧ objG g.2.1 x = o := by
  obtain ⟨o, ho, rfl⟩ := ordG_ids hm x hx
  exact ⟨o, ho, rfl, obj_of hm ho⟩
/-- A Canon may be. -/
theorem canon_may {g : Gr} (hm : mayG g = true) : mayG (canonG g) = true := by
  obtain ⟨m1, m2, m3, m4, m5⟩ := mayG_parts hm
  have e1 : (canonG g).1 = g.1 := by rw [canonG, if_pos hm]
  have e3 : (canonG g).2.2 = g.2.2.map (atL (ordG g)) := by rw [canonG, if_pos hm]
  have hin : ∀ r, r ∈ ordG g → findG (canonG g).2.1 (atL (ordG g) r) ≠ -1 := fun r hr => by
    obtain ⟨i, h1, h2⟩ := atL_mem hr
    rw [h1, canon_find hm (List.getElem?_eq_some_iff.1 h2).1]
    omega
  have hneg : atL (ordG g) (-1) = -1 := atL_none.2 fun e => by have := ordG_pos hm e; omega
  refine mayG_mk (by rw [e1]; exact m1) (by rw [canon_len hm]; exact ordG_few hm) (by rw [e3, List.length_map]; exact m4) (fun r hr => ?_) (fun o ho => ?_) ?_
  · rw [e3] at hr
    obtain ⟨q, hq, rfl⟩ := List.mem_map.1 hr
    rw [rootG, Bool.or_eq_true, decide_eq_true_eq, decide_eq_true_eq]
    by_cases h0 : q < 0
    · rw [may_neg hm hq h0]
      exact .inl hneg
    · exact .inr (hin q (ordG_root hm hq (by omega)))
  · obtain ⟨i, hi⟩ := List.getElem?_of_mem ho
    have hl := (List.getElem?_eq_some_iff.1 hi).1
    rw [canon_len hm] at hl
    obtain ⟨x, hx⟩ : ∃ x, (ordG g)[i]? = some x := ⟨_, List.getElem?_eq_getElem hl⟩
    rw [canon_at hm hx] at hi
    injection hi with hi
    subst hi
    have hxm := List.mem_of_getElem? hx
    obtain ⟨p, hp, hpx, hpo⟩ := ord_obj hm hxm
    have mo := mayG_obj hm hp
    have h8 := ordG_few hm
    rw [canO, hpo]
    refine ⟨by show (0 : Int) ≤ (i : Int); omega, by show (i : Int) ≤ 1073741824; omega, mo.t0, by rw [e1]; exact mo.t1, ?_, fun k f v hf hv => ?_⟩
    · show (fldsG (canonG g).1 p.2.1).length = (leadV _ _ _).length
      rw [e1, leadV_len _ _ _ mo.len]
      exact mo.len
    · have hf' : (fldsG g.1 p.2.1)[k]? = some f := by rw [← e1]; exact hf
      have hv' : (leadV (atL (ordG g)) (fldsG g.1 p.2.1) p.2.2)[k]? = some v := hv
      have hkl := (List.getElem?_eq_some_iff.1 hf').1
      obtain ⟨u, hu⟩ : ∃ u, p.2.2[k]? = some u := ⟨_, List.getElem?_eq_getElem (by have := mo.len; omega)⟩
      rw [leadV_at _ hf' hu] at hv'
      injection hv' with hv'
      have hh := mo.have' k f u hf' hu
      by_cases h5 : f.2.1 = 5
      · rw [if_pos h5] at hv'
        subst hv'
        have hfit : fitsV f.2.1 u = true := by rw [haveG, Bool.and_eq_true] at hh; exact hh.1
        rw [h5, vl_fits_5, decide_eq_true_eq] at hfit
        by_cases h0 : u.2.2 < 0
        · have hm1 := ref_neg hm hp hf' hu h5 h0
          rw [haveG, h5, vl_fits_5, hm1, hneg]
          have a3 := hfit.2.2.1
          have a4 := hfit.2.2.2
          simp [a3, a4]
        · have hur : u.2.2 ∈ ordG g := by
            refine ordG_shut hm x hxm _ ?_ (by omega)
            rw [hpo]
            exact refsL_mem.2 ⟨k, f, u, hf', hu, h5, rfl⟩
          obtain ⟨j, hj1, hj2⟩ := atL_mem hur
          have hjl := (List.getElem?_eq_some_iff.1 hj2).1
          obtain ⟨r1, r2⟩ := haveG_ref hh h5 (by omega)
          have hty : typG (canonG g).2.1 (j : Int) = typG g.2.1 u.2.2 := by
            obtain ⟨q, hq, hqx, hqo⟩ := ord_obj hm hur
            have t1 : typG (canonG g).2.1 (j : Int) = (canO g (ordG g) j u.2.2).2.1 := by
              have ho2 := objG_at (canon_find hm hjl) (canon_at hm hj2)
              show (objG (canonG g).2.1 (j : Int)).2.1 = _
              rw [ho2]
            rw [t1, canO]
            rfl
          rw [haveG, h5, vl_fits_5, hj1, canon_find hm hjl, hty, r2, e1]
          have a3 := hfit.2.2.1
          have a4 := hfit.2.2.2
          have b1 : (-1 : Int) ≤ (j : Int) := by omega
          have b2 : (j : Int) ≤ 1073741824 := by omega
          have b3 : ¬ ((j : Int) = -1) := by omega
          simp [a3, a4, b1, b2, b3]
      · rw [if_neg h5] at hv'
        subst hv'
        exact haveG_mono (g := g) e1 hh fun e => absurd e h5
  · rw [List.pairwise_iff_getElem]
    intro i j hi hj hij
    rw [canon_len hm] at hi hj
    have h1 := canon_at hm (List.getElem?_eq_getElem hi)
    have h2 := canon_at hm (List.getElem?_eq_getElem hj)
    rw [(List.getElem?_eq_some_iff.1 h1).2, (List.getElem?_eq_some_iff.1 h2).2]
    show (i : Int) < (j : Int)
    omega
/-- A graph is its Canon, by other ids. -/
theorem canon_ren {g : Gr} (hm : mayG g = true) : Ren (atL (ordG g)) (· ∈ ordG g) g (canonG g) := by
  have hneg : atL (ordG g) (-1) = -1 := atL_none.2 fun e => by have := ordG_pos hm e; omega
  have hren : ∀ r : Int, (r < 0 → r = -1) → atL (ordG g) r = ren (atL (ordG g)) r := fun r hr => by
    by_cases h0 : r < 0
    · rw [ren_neg h0, hr h0, hneg]
    · rw [ren_pos (by omega)]
  refine ⟨by rw [canonG, if_pos hm], ?_, fun r hr h0 => ordG_root hm hr h0, fun x hx r hr h0 => ordG_shut hm x hx r hr h0, fun x y hx hy e => ?_, fun x hx => ?_, fun x hx => ?_⟩
  · rw [canonG, if_pos hm]
    exact List.map_congr_left fun r hr => hren r fun h0 => may_neg hm hr h0
  · obtain ⟨i, h1, h2⟩ := atL_mem hx
    obtain ⟨j, h3, h4⟩ := atL_mem hy
    rw [h1, h3] at e
    obtain rfl : i = j := by omega
    rw [h2] at h4
    injection h4
  · obtain ⟨i, h1, -⟩ := atL_mem hx
    rw [h1]
    omega
  · obtain ⟨o, ho, hox, hoo⟩ := ord_obj hm hx
    rw [canon_obj hm hx, canO]
    refine Prod.ext rfl ?_
    rw [hoo]
    exact leadV_congr fun k a v h1 h2 h5 => hren _ fun h0 => ref_neg hm ho h1 h2 h5 h0
/-- THE CANON OF A CANON IS IT. -/
theorem canon_twice {g : Gr} (hm : mayG g = true) : canonG (canonG g) = canonG g := (canon_ren hm).canon hm (canon_may hm) fun _ h => h
theorem ren_id (r : Int) : ren (fun x => x) r = r := by unfold ren; split <;> rfl
theorem lead_id : ∀ (fs : List Fld) (vs : List Vl), leadV (ren fun x => x) fs vs = vs
  | [], _ => rfl
  | _ :: _, [] => rfl
  | a :: fs, v :: vs => by
    rw [leadV, lead_id fs vs, ren_id]
    by_cases e : a.2.1 = 5 <;> simp [e]
/-- Swept it is the same. -/
theorem canon_sweep {g : Gr} (hm : mayG g = true) : canonG (sweepG g) = canonG g := by
  have e1 : (sweepG g).1 = g.1 := by rw [sweepG_yes hm]
  have e3 : (sweepG g).2.2 = g.2.2 := by rw [sweepG_yes hm]
  have R : Ren (fun x => x) (· ∈ ordG g) g (sweepG g) := by
    refine ⟨e1, ?_, fun r hr h0 => ordG_root hm hr h0, fun x hx r hr h0 => ordG_shut hm x hx r hr h0, fun x y _ _ e => e, fun x hx => ordG_pos hm hx, fun x hx => ?_⟩
    · rw [e3]
      conv => lhs; rw [← List.map_id g.2.2]
      exact List.map_congr_left fun r _ => (ren_id r).symm
    · obtain ⟨o, ho, rfl, hoo⟩ := ord_obj hm hx
      have hs : o ∈ (sweepG g).2.1 := (sweep_mem hm).2 ⟨ho, (ordG_mem hm).1 hx⟩
      rw [obj_of (sweepG_may hm) hs, hoo, lead_id]
  exact R.canon hm (sweepG_may hm) fun _ h => h
theorem iso_canon {g : Gr} (hm : mayG g = true) : isoG g (canonG g) = true := by
  rw [isoG, hm, canon_may hm, canon_twice hm]
  simp
end Go.Proofs.YtclbjbhpncpmbaaGreatDoor

/- Graphs by other ids may be, and have the same Canon; a value set anew; roots in a Canon. On plain data. No condition. -/
namespace Go.Proofs.YtclbjbhpncpmbaaGreatDoor

/-- h is g by other ids, all of it. -/
structure Relab (ρ : Int → Int) (g h : Gr) : Prop where
  sch : h.1 = g.1
  roots : h.2.2 = g.2.2.map (ren ρ)
  mem : ∀ p, p ∈ h.2.1 ↔ ∃ o ∈ g.2.1, p = (ρ o.1, o.2.1, leadV (ren ρ) (fldsG g.1 o.2.1) o.2.2)
  sorted : h.2.1.Pairwise fun o p => o.1 < p.1
  len : h.2.1.length ≤ 8
  low : ∀ o ∈ g.2.1, 0 ≤ ρ o.1
  top : ∀ o ∈ g.2.1, ρ o.1 ≤ 1073741824
  inj : ∀ o ∈ g.2.1, ∀ p ∈ g.2.1, ρ o.1 = ρ p.1 → o.1 = p.1
theorem Relab.may {ρ : Int → Int} {g h : Gr} (R : Relab ρ g h) (hm : mayG g = true) : mayG h = true := by
  obtain ⟨m1, m2, m3, m4, m5⟩ := mayG_parts hm
  have hin : ∀ o ∈ g.2.1, (ρ o.1, o.2.1, leadV (ren ρ) (fldsG g.1 o.2.1) o.2.2) ∈ h.2.1 := fun o ho => (R.mem _).2 ⟨o, ho, rfl⟩
  refine mayG_mk (by rw [R.sch]; exact m1) R.len (by rw [R.roots, List.length_map]; exact m4) (fun r hr => ?_) (fun p hp => ?_) R.sorted
  · rw [R.roots] at hr
    obtain ⟨q, hq, rfl⟩ := List.mem_map.1 hr
    rw [rootG, Bool.or_eq_true, decide_eq_true_eq, decide_eq_true_eq]
    by_cases h0 : q < 0
    · rw [ren_neg h0]
      exact .inl (may_neg hm hq h0)
    · obtain ⟨o, ho, rfl⟩ := root_id hm hq (by omega)
      rw [ren_pos (by omega)]
      exact .inr (findG_mem.2 ⟨_, hin o ho, rfl⟩)
  · obtain ⟨o, ho, rfl⟩ := (R.mem p).1 hp
    have mo := mayG_obj hm ho
    refine ⟨R.low o ho, R.top o ho, mo.t0, by rw [R.sch]; exact mo.t1, ?_, fun k f v hf hv => ?_⟩
    · show (fldsG h.1 o.2.1).length = (leadV _ _ _).length
      rw [R.sch, leadV_len _ _ _ mo.len]
      exact mo.len
    · have hf' : (fldsG g.1 o.2.1)[k]? = some f := by rw [← R.sch]; exact hf
      have hv' : (leadV (ren ρ) (fldsG g.1 o.2.1) o.2.2)[k]? = some v := hv
      have hkl := (List.getElem?_eq_some_iff.1 hf').1
      obtain ⟨u, hu⟩ : ∃ u, o.2.2[k]? = some u := ⟨_, List.getElem?_eq_getElem (by have := mo.len; omega)⟩
      rw [leadV_at _ hf' hu] at hv'
      injection hv' with hv'
      have hh := mo.have' k f u hf' hu
      by_cases h5 : f.2.1 = 5
      · rw [if_pos h5] at hv'
        subst hv'
        have hfit : fitsV f.2.1 u = true := by rw [haveG, Bool.and_eq_true] at hh; exact hh.1
        rw [h5, vl_fits_5, decide_eq_true_eq] at hfit
        have a3 := hfit.2.2.1
        have a4 := hfit.2.2.2
        by_cases h0 : u.2.2 < 0
        · have hm1 := ref_neg hm ho hf' hu h5 h0
          rw [haveG, h5, vl_fits_5, ren_neg h0, hm1]
          simp [a3, a4]
        · obtain ⟨r1, r2⟩ := haveG_ref hh h5 (by omega)
          obtain ⟨q, hq, hqe⟩ := findG_mem.1 r1
          obtain ⟨t1, t2⟩ := typG_of R.sorted (hin q hq)
          obtain ⟨-, t4⟩ := typG_of (mayG_sorted hm) hq
          rw [hqe] at t1 t2 t4
          have b1 := R.low q hq
          have b2 := R.top q hq
          rw [hqe] at b1 b2
          rw [haveG, h5, vl_fits_5, ren_pos (by omega), t2, ← t4, r2, R.sch]
          have b3 : ¬ (ρ u.2.2 = -1) := by omega
          have b4 : (-1 : Int) ≤ ρ u.2.2 := by omega
          simp [a3, a4, b2, b3, b4, t1]
      · rw [if_neg h5] at hv'
        subst hv'
        exact haveG_mono (g := g) R.sch hh fun e => absurd e h5
theorem Relab.ren {ρ : Int → Int} {g h : Gr} (R : Relab ρ g h) (hm : mayG g = true) : Ren ρ (IdG g) g h := by
  refine ⟨R.sch, R.roots, fun r hr h0 => root_id hm hr h0, fun x hx => refs_step hm x hx, ?_, ?_, ?_⟩
  · rintro x y ⟨o, ho, rfl⟩ ⟨p, hp, rfl⟩ e
    exact R.inj o ho p hp e
  · rintro x ⟨o, ho, rfl⟩
    exact R.low o ho
  · rintro x ⟨o, ho, rfl⟩
    have hp := (R.mem _).2 ⟨o, ho, rfl⟩
    have := obj_of (R.may hm) hp
    rw [show objG h.2.1 (ρ o.1) = _ from this, obj_of hm ho]
theorem Relab.canon {ρ : Int → Int} {g h : Gr} (R : Relab ρ g h) (hm : mayG g = true) : canonG h = canonG g := (R.ren hm).canon hm (R.may hm) (ordG_ids hm)
theorem Relab.iso {ρ : Int → Int} {g h : Gr} (R : Relab ρ g h) (hm : mayG g = true) : isoG g h = true := by
  rw [isoG, hm, R.may hm, R.canon hm]
  simp

/-- By how much each id is more than the one ahead. -/
def moreR (b : List Int) (i : Nat) : Int := match b[i]? with | some x => if 1 < x ∧ x < 1000 then x else 1 | none => 1
def idsR (b : List Int) : Nat → Int
  | 0 => 0
  | i + 1 => idsR b i + moreR b i
theorem moreR_low (b : List Int) (i : Nat) : 1 ≤ moreR b i ∧ moreR b i < 1000 := by
  unfold moreR
  split
  · split <;> omega
  · omega
theorem idsR_low (b : List Int) : ∀ i : Nat, 0 ≤ idsR b i ∧ idsR b i ≤ 1000 * (i : Int)
  | 0 => by simp [idsR]
  | i + 1 => by
    have h1 := idsR_low b i
    have h2 := moreR_low b i
    rw [idsR]
    omega
theorem idsR_lt (b : List Int) {i j : Nat} (h : i < j) : idsR b i < idsR b j := by
  induction j with
  | zero => omega
  | succ j ih =>
    have h2 := moreR_low b j
    rw [idsR]
    rcases Nat.lt_or_ge i j with h1 | h1
    · have := ih h1; omega
    · obtain rfl : i = j := by omega
      omega
/-- A graph with other ids, as the objects stand. -/
def renamedG (g : Gr) (b : List Int) : Gr :=
  (g.1, g.2.1.mapIdx (fun i o => (idsR b i, o.2.1, leadV (ren fun x => idsR b (findG g.2.1 x).toNat) (fldsG g.1 o.2.1) o.2.2)), g.2.2.map (ren fun x => idsR b (findG g.2.1 x).toNat))
/-- Where an object stands, it is found. -/
theorem find_here {g : Gr} (hm : mayG g = true) {i : Nat} {o : Ob} (h : g.2.1[i]? = some o) : findG g.2.1 o.1 = (i : Int) := by
  refine (idxP_iff _ _ i).2 ⟨⟨o, h, decide_eq_true rfl⟩, fun j p hj hp => decide_eq_false fun e => ?_⟩
  have hs := mayG_sorted hm
  rw [List.pairwise_iff_getElem] at hs
  have l1 := (List.getElem?_eq_some_iff.1 h).1
  have := hs j i (by omega) l1 hj
  rw [(List.getElem?_eq_some_iff.1 h).2, (List.getElem?_eq_some_iff.1 hp).2] at this
  omega
theorem renamed_relab {g : Gr} (hm : mayG g = true) (b : List Int) : Relab (fun x => idsR b (findG g.2.1 x).toNat) g (renamedG g b) := by
  have hf : ∀ (i : Nat) o, g.2.1[i]? = some o → idsR b (findG g.2.1 o.1).toNat = idsR b i := fun i o h => by rw [find_here hm h, Int.toNat_natCast]
  have h8 := (mayG_parts hm).2.1
  refine ⟨rfl, rfl, fun p => ?_, ?_, by show (List.mapIdx _ _).length ≤ 8; simpa using h8, fun o ho => ?_, fun o ho => ?_, fun o ho p hp e => ?_⟩
  · constructor
    · intro hp
      obtain ⟨i, hi⟩ := List.getElem?_of_mem hp
      have hi' : (g.2.1.mapIdx _)[i]? = some p := hi
      rw [List.getElem?_mapIdx] at hi'
      cases ho : g.2.1[i]? with
      | none => rw [ho] at hi'; cases hi'
      | some o =>
        rw [ho] at hi'
        injection hi' with hi'
        exact ⟨o, List.mem_of_getElem? ho, by rw [← hi', hf i o ho]⟩
    · rintro ⟨o, ho, rfl⟩
      obtain ⟨i, hi⟩ := List.getElem?_of_mem ho
      refine List.mem_of_getElem? (i := i) ?_
      show (g.2.1.mapIdx _)[i]? = _
      rw [List.getElem?_mapIdx, hi, hf i o hi]
      rfl
  · show (g.2.1.mapIdx _).Pairwise _
    rw [List.pairwise_iff_getElem]
    intro i j hi hj hij
    simp only [List.getElem_mapIdx]
    exact idsR_lt b hij
  · exact (idsR_low b _).1
  · obtain ⟨i, hi⟩ := List.getElem?_of_mem ho
    have h1 := hf i o hi
    have h2 := (idsR_low b i).2
    have h3 := (List.getElem?_eq_some_iff.1 hi).1
    show idsR b (findG g.2.1 o.1).toNat ≤ _
    omega
  · obtain ⟨i, hi⟩ := List.getElem?_of_mem ho
    obtain ⟨j, hj⟩ := List.getElem?_of_mem hp
    have e' : idsR b (findG g.2.1 o.1).toNat = idsR b (findG g.2.1 p.1).toNat := e
    rw [hf i o hi, hf j p hj] at e'
    have hij : i = j := by
      rcases Nat.lt_trichotomy i j with h | h | h
      · have := idsR_lt b h; omega
      · exact h
      · have := idsR_lt b h; omega
    subst hij
    rw [hi] at hj
    injection hj with hj
    rw [hj]
/-- A graph whose objects stand the other way round. -/
def turnedG (g : Gr) : Gr :=
  (g.1, g.2.1.reverse.mapIdx (fun i o => ((i : Int), o.2.1, leadV (ren fun x => (g.2.1.length : Int) - 1 - findG g.2.1 x) (fldsG g.1 o.2.1) o.2.2)), g.2.2.map (ren fun x => (g.2.1.length : Int) - 1 - findG g.2.1 x))
theorem turned_relab {g : Gr} (hm : mayG g = true) : Relab (fun x => (g.2.1.length : Int) - 1 - findG g.2.1 x) g (turnedG g) := by
  have h8 := (mayG_parts hm).2.1
  have hrev : ∀ (i : Nat) o, g.2.1[i]? = some o → g.2.1.reverse[g.2.1.length - 1 - i]? = some o := fun i o h => by
    have hl := (List.getElem?_eq_some_iff.1 h).1
    rw [List.getElem?_reverse (by omega), show g.2.1.length - 1 - (g.2.1.length - 1 - i) = i by omega]
    exact h
  refine ⟨rfl, rfl, fun p => ?_, ?_, by show (List.mapIdx _ _).length ≤ 8; simpa using h8, fun o ho => ?_, fun o ho => ?_, fun o ho p hp e => ?_⟩
  · constructor
    · intro hp
      obtain ⟨i, hi⟩ := List.getElem?_of_mem hp
      have hi' : (g.2.1.reverse.mapIdx _)[i]? = some p := hi
      rw [List.getElem?_mapIdx] at hi'
      cases ho : g.2.1.reverse[i]? with
      | none => rw [ho] at hi'; cases hi'
      | some o =>
        have hl := (List.getElem?_eq_some_iff.1 ho).1
        rw [List.length_reverse] at hl
        rw [ho] at hi'
        injection hi' with hi'
        rw [List.getElem?_reverse hl] at ho
        refine ⟨o, List.mem_of_getElem? ho, ?_⟩
        rw [← hi']
        show _ = ((g.2.1.length : Int) - 1 - findG g.2.1 o.1, _, _)
        rw [find_here hm ho, show (g.2.1.length : Int) - 1 - ((g.2.1.length - 1 - i : Nat) : Int) = (i : Int) by omega]
    · rintro ⟨o, ho, rfl⟩
      obtain ⟨i, hi⟩ := List.getElem?_of_mem ho
      have hl := (List.getElem?_eq_some_iff.1 hi).1
      refine List.mem_of_getElem? (i := g.2.1.length - 1 - i) ?_
      show (g.2.1.reverse.mapIdx _)[_]? = _
      rw [List.getElem?_mapIdx, hrev i o hi]
      show some (((g.2.1.length - 1 - i : Nat) : Int), _, _) = some ((g.2.1.length : Int) - 1 - findG g.2.1 o.1, _, _)
      rw [find_here hm hi, show ((g.2.1.length - 1 - i : Nat) : Int) = (g.2.1.length : Int) - 1 - (i : Int) by omega]
  · show (g.2.1.reverse.mapIdx _).Pairwise _
    rw [List.pairwise_iff_getElem]
    intro i j hi hj hij
    simp only [List.getElem_mapIdx]
    omega
  · obtain ⟨i, hi⟩ := List.getElem?_of_mem ho
    have h3 := (List.getElem?_eq_some_iff.1 hi).1
    show 0 ≤ (g.2.1.length : Int) - 1 - findG g.2.1 o.1
    rw [find_here hm hi]
    omega
  · obtain ⟨i, hi⟩ := List.getElem?_of_mem ho
    show (g.2.1.length : Int) - 1 - findG g.2.1 o.1 ≤ _
    rw [find_here hm hi]
    omega
  · obtain ⟨i, hi⟩ := List.getElem?_of_mem ho
    obtain ⟨j, hj⟩ := List.getElem?_of_mem hp
    have e' : (g.2.1.length : Int) - 1 - findG g.2.1 o.1 = (g.2.1.length : Int) - 1 - findG g.2.1 p.1 := e
    rw [find_here hm hi, find_here hm hj] at e'
    obtain rfl : i = j := by omega
    rw [hi] at hj
    injection hj with hj
    rw [hj]
end Go.Proofs.YtclbjbhpncpmbaaGreatDoor

/- A value that is set in what is come to makes another Canon, unless it is the same; roots and fields of a Canon. On plain data. No condition. -/
namespace Go.Proofs.YtclbjbhpncpmbaaGreatDoor

theorem ordN_congr {g h : Gr} {P : Int → Prop} (hr : ∀ x, P x → refsL h.1 (objG h.2.1 x) = refsL g.1 (objG g.2.1 x)) (hs : ∀ x, P x → ∀ r ∈ refsL g.1 (objG g.2.1 x), 0 ≤ r → P r) : ∀ (n : Nat) (l : List Int) (i : Nat), (∀ x ∈ l, P x) → ordN h n l i = ordN g n l i
  | 0, _, _, _ => rfl
  | n + 1, l, i, hl => by
    rw [ordN, ordN]
    cases hi : l[i]? with
    | none => rfl
    | some x =>
      have hx := hl x (List.mem_of_getElem? hi)
      show ordN h n _ _ = ordN g n _ _
      rw [hr x hx]
      refine ordN_congr hr hs n _ _ fun y hy => ?_
      rcases mets_mem.1 hy with h1 | ⟨h1, h2⟩
      · exact hl y h1
      · exact hs x hx y h1 h2
theorem refs_set : ∀ {fs : List Fld} {vs : List Vl} {k : Nat} {f : Fld} {v : Vl}, fs[k]? = some f → f.2.1 ≠ 5 → (fs.zip (vs.set k v)).filterMap (fun p => if p.1.2.1 = 5 then some p.2.2.2 else none) = (fs.zip vs).filterMap (fun p => if p.1.2.1 = 5 then some p.2.2.2 else none)
  | [], _, _, _, _, h, _ => by simp at h
  | _ :: _, [], _, _, _, _, _ => by simp
  | a :: fs, u :: vs, 0, f, v, h, h5 => by
    simp at h
    subst h
    simp [h5]
  | a :: fs, u :: vs, k + 1, f, v, h, h5 => by
    rw [List.set_cons_succ, List.zip_cons_cons, List.zip_cons_cons, List.filterMap_cons, List.filterMap_cons, refs_set (fs := fs) (vs := vs) (by simpa using h) h5]
/-- Another value, that is no Ref, of what is come to. -/
theorem canon_set {g : Gr} {id : Int} {k : Nat} {v v0 : Vl} {I : Nat} {o : Ob} {f : Fld} (he : setE g id (k : Int) v = 0) (hI : findG g.2.1 id = (I : Int)) (ho : g.2.1[I]? = some o) (hv0 : o.2.2[k]? = some v0) (hf : (fldsG g.1 o.2.1)[k]? = some f) (h5 : f.2.1 ≠ 5) (hid : id ∈ ordG g) :
    (canonG (setN g id (k : Int) v) = canonG g) ↔ v0 = v := by
  obtain ⟨hm, -⟩ := setE_0 he
  have hoe := objG_at hI ho
  have e : setN g id (k : Int) v = (g.1, g.2.1.set I (o.1, o.2.1, o.2.2.set k v), g.2.2) := by rw [setN, if_pos he, hI, hoe, Int.toNat_natCast, Int.toNat_natCast]
  have hm2 := setN_may he
  constructor
  · intro hc
    have hl := (List.getElem?_eq_some_iff.1 ho).1
    have hoid : o.1 = id := by
      obtain ⟨⟨q, hq, hd⟩, -⟩ := (idxP_iff _ g.2.1 I).1 hI
      rw [ho] at hq
      injection hq with hq
      subst hq
      exact of_decide_eq_true hd
    have hfi := find_set (p := (o.1, o.2.1, o.2.2.set k v)) hI ho rfl
    have hat : (g.2.1.set I (o.1, o.2.1, o.2.2.set k v))[I]? = some (o.1, o.2.1, o.2.2.set k v) := List.getElem?_set_self hl
    have hobj : objG (setN g id (k : Int) v).2.1 id = (o.1, o.2.1, o.2.2.set k v) := by rw [e]; exact objG_at hfi hat
    have hrefs : ∀ x, IdG g x → refsL (setN g id (k : Int) v).1 (objG (setN g id (k : Int) v).2.1 x) = refsL g.1 (objG g.2.1 x) := fun x hix => by
      by_cases hx : x = id
      · subst hx
        rw [hobj, hoe, e]
        exact refs_set hf h5
      · have hox : objG (setN g id (k : Int) v).2.1 x = objG g.2.1 x := by
          rw [e]
          show objG (g.2.1.set I (o.1, o.2.1, o.2.2.set k v)) x = objG g.2.1 x
          obtain ⟨J, p, h1, h2, h3, -⟩ := findG_at (findG_mem.2 hix)
          have hJI : J ≠ I := fun e2 => by
            subst e2
            rw [ho] at h2
            injection h2 with h2
            subst h2
            exact hx (h3.symm.trans hoid)
          have h4 : (g.2.1.set I (o.1, o.2.1, o.2.2.set k v))[J]? = some p := by rw [List.getElem?_set_ne (fun e2 => hJI e2.symm)]; exact h2
          have h5' : findG (g.2.1.set I (o.1, o.2.1, o.2.2.set k v)) x = (J : Int) := by
            obtain ⟨-, hlt⟩ := (idxP_iff _ g.2.1 J).1 h1
            refine (idxP_iff _ _ J).2 ⟨⟨p, h4, decide_eq_true h3⟩, fun j q hj hq => ?_⟩
            by_cases hjI : j = I
            · subst hjI
              rw [hat] at hq
              injection hq with hq
              subst hq
              exact decide_eq_false fun e2 => hx (e2.symm.trans hoid)
            · rw [List.getElem?_set_ne (fun e2 => hjI e2.symm)] at hq
              exact hlt j q hj hq
          rw [objG_at h5' h4, objG_at h1 h2]
        rw [hox, e]
    have hord : ordG (setN g id (k : Int) v) = ordG g := by
      rw [ordG_yes hm, ordG_yes hm2, show (setN g id (k : Int) v).2.2 = g.2.2 by rw [e]]
      exact ordN_congr hrefs (refs_step hm) _ _ _ (roots_ids hm)
    obtain ⟨i, h1, h2⟩ := atL_mem hid
    have c1 := canon_at hm h2
    have c2 := canon_at hm2 (i := i) (x := id) (by rw [hord]; exact h2)
    rw [hc, c1] at c2
    injection c2 with c2
    rw [canO, canO, hobj, hoe, hord] at c2
    have c3 : leadV (atL (ordG g)) (fldsG g.1 o.2.1) o.2.2 = leadV (atL (ordG g)) (fldsG (setN g id (k : Int) v).1 o.2.1) (o.2.2.set k v) := congrArg (fun p : Ob => p.2.2) c2
    rw [show (setN g id (k : Int) v).1 = g.1 by rw [e]] at c3
    have a1 := leadV_at (atL (ordG g)) hf hv0
    have a2 := leadV_at (atL (ordG g)) hf (List.getElem?_set_self (l := o.2.2) (a := v) (List.getElem?_eq_some_iff.1 hv0).1)
    rw [c3, a2, if_neg h5, if_neg h5] at a1
    injection a1 with a1
    exact a1.symm
  · intro hv
    subst hv
    rw [e, set_same hv0, set_same ho]
/-- The roots that were met, up to a place. -/
def preR (g : Gr) (i : Nat) : List Int := (g.2.2.take i).foldl metL []
theorem preR_next {g : Gr} {i : Nat} {r : Int} (h : g.2.2[i]? = some r) : preR g (i + 1) = metL (preR g i) r := by
  have hl := (List.getElem?_eq_some_iff.1 h).1
  rw [preR, preR, List.take_add_one, h, List.foldl_append]
  rfl
theorem preR_nodup (g : Gr) (i : Nat) : (preR g i).Nodup := mets_nodup (by simp)
/-- Objects are met from the roots on. -/
theorem ordG_pre {g : Gr} (hm : mayG g = true) (i : Nat) : ∃ m, ordG g = preR g i ++ m := by
  rw [ordG_yes hm]
  obtain ⟨m1, h1⟩ := ordN_pre g 8 (g.2.2.foldl metL []) 0
  have h2 : g.2.2.foldl metL [] = (g.2.2.drop i).foldl metL (preR g i) := by
    conv => lhs; rw [← List.take_append_drop i g.2.2]
    rw [List.foldl_append]
    rfl
  obtain ⟨m2, h3⟩ := mets_pre (g.2.2.drop i) (preR g i)
  exact ⟨m2 ++ m1, by rw [h1, h2, h3, List.append_assoc]⟩
theorem root_neg {g : Gr} (hm : mayG g = true) {r : Int} (h0 : r < 0) : atL (ordG g) r = -1 := atL_none.2 fun e => by have := ordG_pos hm e; omega
/-- A root that was met stands among those that were. -/
theorem root_old {g : Gr} (hm : mayG g = true) {i : Nat} {r : Int} (hr : r ∈ preR g i) : ∃ j : Nat, atL (ordG g) r = (j : Int) ∧ j < (preR g i).length ∧ (ordG g)[j]? = some r := by
  obtain ⟨m, e⟩ := ordG_pre hm i
  obtain ⟨j, hj⟩ := List.getElem?_of_mem hr
  have hl := (List.getElem?_eq_some_iff.1 hj).1
  have h2 : (ordG g)[j]? = some r := by rw [e, List.getElem?_append_left hl]; exact hj
  exact ⟨j, atL_at (ordG_nodup hm) h2, hl, h2⟩
/-- One that was not is the next one. -/
theorem root_next {g : Gr} (hm : mayG g = true) {i : Nat} {r : Int} (hi : g.2.2[i]? = some r) (h0 : 0 ≤ r) (hr : r ∉ preR g i) : atL (ordG g) r = ((preR g i).length : Int) ∧ (ordG g)[(preR g i).length]? = some r ∧ (preR g (i + 1)).length = (preR g i).length + 1 := by
  have hn : preR g (i + 1) = preR g i ++ [r] := by rw [preR_next hi, metL, if_neg (fun e => e.elim (by omega) hr)]
  obtain ⟨m, e⟩ := ordG_pre hm (i + 1)
  have h2 : (ordG g)[(preR g i).length]? = some r := by
    rw [e, hn, List.append_assoc, List.getElem?_append_right (Nat.le_refl _), Nat.sub_self]
    rfl
  exact ⟨atL_at (ordG_nodup hm) h2, h2, by rw [hn]; simp⟩
theorem preR_same {g : Gr} {i : Nat} {r : Int} (hi : g.2.2[i]? = some r) (h : r < 0 ∨ r ∈ preR g i) : preR g (i + 1) = preR g i := by
  rw [preR_next hi, metL, if_pos h]
/-- A field of a Canon's object. -/
theorem canon_field {g : Gr} (hm : mayG g = true) {i : Nat} {x : Int} {o : Ob} {k : Nat} {f : Fld} {v : Vl} (hx : (ordG g)[i]? = some x) (ho : o ∈ g.2.1) (hox : o.1 = x) (hf : (fldsG g.1 o.2.1)[k]? = some f) (hv : o.2.2[k]? = some v) :
    ∃ p, (canonG g).2.1[i]? = some p ∧ p.1 = (i : Int) ∧ p.2.1 = o.2.1 ∧ p.2.2.length = o.2.2.length ∧ p.2.2[k]? = some (if f.2.1 = 5 then (v.1, v.2.1, atL (ordG g) v.2.2) else v) ∧
      (f.2.1 = 5 → 0 ≤ v.2.2 → ∃ j : Nat, atL (ordG g) v.2.2 = (j : Int) ∧ (ordG g)[j]? = some v.2.2) ∧ (f.2.1 = 5 → v.2.2 < 0 → atL (ordG g) v.2.2 = v.2.2) := by
  subst hox
  have hoo := obj_of hm ho
  refine ⟨_, canon_at hm hx, rfl, ?_, ?_, ?_, fun h5 h0 => ?_, fun h5 h0 => ?_⟩
  · rw [canO, hoo]
  · rw [canO, hoo]
    exact leadV_len _ _ _ (mayG_obj hm ho).len
  · rw [canO, hoo]
    exact leadV_at _ hf hv
  · refine atL_mem (ordG_shut hm o.1 (List.mem_of_getElem? hx) _ ?_ h0)
    rw [hoo]
    exact refsL_mem.2 ⟨k, f, v, hf, hv, h5, rfl⟩
  · rw [ref_neg hm ho hf hv h5 h0]
    exact root_neg hm (by omega)
end Go.Proofs.YtclbjbhpncpmbaaGreatDoor

/- Objects that are met one by one, behind all that wait, are met in the document's order, on plain data; where they are. No condition. -/
namespace Go.Proofs.YtclbjbhpncpmbaaGreatDoor

theorem q_drop {x : Int} {q l : List Int} (h : x < 0 ∨ x ∈ l) : (x :: q).foldl metL l = q.foldl metL l := by
  rw [List.foldl_cons, metL, if_pos h]
theorem q_end (g : Gr) (n : Nat) (l : List Int) : ordN g n l l.length = l := by
  cases n with
  | zero => rfl
  | succ n => rw [ordN, List.getElem?_eq_none (Nat.le_refl _)]
theorem q_take {g : Gr} {x : Int} {q l : List Int} (n : Nat) (h : ¬ (x < 0 ∨ x ∈ l)) :
    ordN g (n + 1) ((x :: q).foldl metL l) l.length = ordN g n ((q ++ refsL g.1 (objG g.2.1 x)).foldl metL (l ++ [x])) (l ++ [x]).length := by
  have e1 : (x :: q).foldl metL l = q.foldl metL (l ++ [x]) := by rw [List.foldl_cons, metL, if_neg h]
  rw [e1, List.foldl_append]
  obtain ⟨m, hm⟩ := mets_pre q (l ++ [x])
  have e2 : (q.foldl metL (l ++ [x]))[l.length]? = some x := by
    rw [hm, List.append_assoc, List.getElem?_append_right (Nat.le_refl _), Nat.sub_self]
    rfl
  rw [ordN, e2, List.length_append, List.length_singleton]
/-- What stands while objects are met: those that were (l), and the ids that wait (q). -/
structure Meets (g : Gr) (l q : List Int) : Prop where
  nd : l.Nodup
  ids : ∀ x ∈ l, IdG g x
  led : ∀ x ∈ q, x = -1 ∨ IdG g x
  ord : ∃ n, l.length + n = 8 ∧ ordG g = ordN g n (q.foldl metL l) l.length
theorem id_pos {g : Gr} (hm : mayG g = true) {x : Int} (h : IdG g x) : 0 ≤ x := by
  obtain ⟨o, ho, rfl⟩ := h
  exact (mayG_obj hm ho).id0
theorem refs_led {g : Gr} (hm : mayG g = true) {o : Ob} (ho : o ∈ g.2.1) : ∀ r ∈ refsL g.1 o, r = -1 ∨ IdG g r := by
  intro r hr
  by_cases h0 : 0 ≤ r
  · right
    have := refs_step hm o.1 ⟨o, ho, rfl⟩ r
    rw [obj_of hm ho] at this
    exact this hr h0
  · left
    obtain ⟨k, f, v, h1, h2, h3, rfl⟩ := refsL_mem.1 hr
    exact ref_neg hm ho h1 h2 h3 (by omega)
theorem roots_led {g : Gr} (hm : mayG g = true) : ∀ r ∈ g.2.2, r = -1 ∨ IdG g r := by
  intro r hr
  by_cases h0 : 0 ≤ r
  · exact .inr (root_id hm hr h0)
  · exact .inl (may_neg hm hr (by omega))
theorem Meets.start {g : Gr} (hm : mayG g = true) : Meets g [] g.2.2 := ⟨by simp, by simp, roots_led hm, 8, rfl, ordG_yes hm⟩
theorem Meets.few {g : Gr} {l q : List Int} (hm : mayG g = true) (h : Meets g l q) : l.length ≤ 8 := ids_few hm l h.nd h.ids
theorem Meets.skip {g : Gr} {l q : List Int} {x : Int} (h : Meets g l (x :: q)) (hx : x = -1 ∨ x ∈ l) : Meets g l q := by
  obtain ⟨n, h1, h2⟩ := h.ord
  rw [q_drop (by rcases hx with rfl | hx; exact .inl (by omega); exact .inr hx)] at h2
  exact ⟨h.nd, h.ids, fun y hy => h.led y (List.mem_cons_of_mem _ hy), n, h1, h2⟩
theorem Meets.met {g : Gr} {l q : List Int} {x : Int} (hm : mayG g = true) (h : Meets g l (x :: q)) (hx : ¬ (x = -1 ∨ x ∈ l)) : IdG g x ∧ l.length < 8 ∧ Meets g (l ++ [x]) (q ++ refsL g.1 (objG g.2.1 x)) := by
  obtain ⟨n, h1, h2⟩ := h.ord
  have hid : IdG g x := (h.led x (by simp)).resolve_left fun e => hx (.inl e)
  have h0 := id_pos hm hid
  have hn : ¬ (x < 0 ∨ x ∈ l) := by rintro (e | e); omega; exact hx (.inr e)
  have nd : (l ++ [x]).Nodup := by
    rw [List.nodup_append]
    refine ⟨h.nd, by simp, fun a ha b hb e => ?_⟩
    simp at hb
    subst hb
    subst e
    exact hx (.inr ha)
  have ids : ∀ y ∈ l ++ [x], IdG g y := fun y hy => by
    rcases List.mem_append.1 hy with e | e
    · exact h.ids y e
    · simp at e; subst e; exact hid
  have h8 := ids_few hm _ nd ids
  rw [List.length_append, List.length_singleton] at h8
  obtain ⟨o, ho, rfl⟩ := hid
  obtain ⟨k, rfl⟩ : ∃ k, n = k + 1 := ⟨n - 1, by omega⟩
  rw [q_take k hn] at h2
  refine ⟨⟨o, ho, rfl⟩, by omega, nd, ids, fun y hy => ?_, k, by simp; omega, h2⟩
  rcases List.mem_append.1 hy with e | e
  · exact h.led y (List.mem_cons_of_mem _ e)
  · rw [obj_of hm ho] at e
    exact refs_led hm ho y e
theorem Meets.done {g : Gr} {l : List Int} (h : Meets g l []) : ordG g = l := by
  obtain ⟨n, _, h2⟩ := h.ord
  rw [h2]
  exact q_end g n l
/-- Where ids are, with one more behind. -/
theorem atL_more {l : List Int} {x y : Int} (h : y ∈ l ∨ y ≠ x) : atL (l ++ [x]) y = atL l y := by
  by_cases hy : y ∈ l
  · obtain ⟨i, h1, h2⟩ := atL_mem hy
    obtain ⟨_, h4⟩ := (idxP_iff _ l i).1 h1
    rw [h1]
    refine (idxP_iff _ _ i).2 ⟨⟨y, ?_, by simp⟩, fun j b hj hb => h4 j b hj ?_⟩
    · rw [List.getElem?_append_left (List.getElem?_eq_some_iff.1 h2).1]; exact h2
    · have := (List.getElem?_eq_some_iff.1 h2).1
      rw [List.getElem?_append_left (by omega)] at hb
      exact hb
  · have hne := h.resolve_left hy
    rw [atL_none.2 hy, atL_none.2 (by simp [hy, hne])]
theorem atL_last {l : List Int} {x : Int} (h : x ∉ l) : atL (l ++ [x]) x = (l.length : Int) := by
  refine (idxP_iff _ _ _).2 ⟨⟨x, by simp, by simp⟩, fun j b hj hb => ?_⟩
  rw [List.getElem?_append_left hj] at hb
  refine decide_eq_false fun e => h ?_
  rw [← e]
  exact List.mem_of_getElem? hb
end Go.Proofs.YtclbjbhpncpmbaaGreatDoor
