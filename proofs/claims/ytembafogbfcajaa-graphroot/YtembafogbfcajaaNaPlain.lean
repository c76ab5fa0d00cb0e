/- Texts as lists of bytes, their signs, and names among them: plain facts, and that the model's own reading of a sign is this one. No condition. -/
import Derived.Laws.RangeAny
import Derived.WalkKit
namespace Go.Proofs.Ytembafogbfcajaa

/-- A text's bytes, as numbers. -/
def byt (s : ByteArray) : List Nat := s.data.toList.map UInt8.toNat
@[simp] theorem byt_length (s : ByteArray) : (byt s).length = s.size := by
  rw [byt, List.length_map, Array.length_toList]; rfl
theorem byt_lt (s : ByteArray) : ∀ x ∈ byt s, x < 256 := by
  intro x hx
  obtain ⟨u, _, rfl⟩ := List.mem_map.1 hx
  exact u.toNat_lt
theorem byt_getD (s : ByteArray) (i : Nat) : (byt s).getD i 0 = (s.get! i).toNat := by
  have h : s.get! i = s.data.toList.getD i 0 := by
    show s.data[i]! = _
    rw [List.getD_eq_getElem?_getD, Array.getElem?_toList, getElem!_def]
    cases s.data[i]? <;> rfl
  rw [h, byt, List.getD_eq_getElem?_getD, List.getD_eq_getElem?_getD, List.getElem?_map]
  cases s.data.toList[i]? <;> rfl
theorem byt_inj {s t : ByteArray} (h : byt s = byt t) : s = t := by
  obtain ⟨⟨s⟩⟩ := s
  obtain ⟨⟨t⟩⟩ := t
  have : s = t := by
    simp only [byt] at h
    exact List.map_inj_right (fun a b e => UInt8.toNat_inj.1 e) |>.1 h
  rw [this]

/-- Is x a byte that goes on with a sign? -/
def mid (x : Nat) : Bool := decide (128 ≤ x ∧ x < 192)
def v3 (a b c : Nat) : Nat := (a - 224) * 4096 + (b - 128) * 64 + (c - 128)
def v4 (a b c d : Nat) : Nat := (a - 240) * 262144 + (b - 128) * 4096 + (c - 128) * 64 + (d - 128)
def sigOf (a b c d : Nat) : Nat × Nat :=
  if a < 128 then (a, 1)
  else if 194 ≤ a ∧ a < 224 ∧ mid b then ((a - 192) * 64 + (b - 128), 2)
  else if 224 ≤ a ∧ a < 240 ∧ mid b ∧ mid c ∧ 2048 ≤ v3 a b c ∧ ¬ (55296 ≤ v3 a b c ∧ v3 a b c < 57344) then (v3 a b c, 3)
  else if 240 ≤ a ∧ a < 248 ∧ mid b ∧ mid c ∧ mid d ∧ 65536 ≤ v4 a b c d ∧ v4 a b c d < 1114112 then (v4 a b c d, 4)
  else (65533, 1)
/-- The sign that bytes begin by, and how many bytes it has. -/
def sig (l : List Nat) : Nat × Nat := sigOf (l.getD 0 0) (l.getD 1 0) (l.getD 2 0) (l.getD 3 0)

theorem mid_of {x : Nat} (h : mid x = true) : 128 ≤ x ∧ x < 192 := of_decide_eq_true h
section
variable {a b c d : Nat}
theorem sig_1 (h : a < 128) : sigOf a b c d = (a, 1) := by rw [sigOf, if_pos h]
theorem sig_2 (h : 194 ≤ a) (h' : a < 224) (hb : mid b = true) : sigOf a b c d = ((a - 192) * 64 + (b - 128), 2) := by
  rw [sigOf, if_neg (by omega), if_pos ⟨h, h', hb⟩]
theorem sig_3 (h : 224 ≤ a) (h' : a < 240) (hb : mid b = true) (hc : mid c = true) (hv : 2048 ≤ v3 a b c) (hs : ¬ (55296 ≤ v3 a b c ∧ v3 a b c < 57344)) : sigOf a b c d = (v3 a b c, 3) := by
  rw [sigOf, if_neg (by omega), if_neg (by omega), if_pos ⟨h, h', hb, hc, hv, hs⟩]
theorem sig_4 (h : 240 ≤ a) (h' : a < 248) (hb : mid b = true) (hc : mid c = true) (hd : mid d = true) (hv : 65536 ≤ v4 a b c d) (hs : v4 a b c d < 1114112) : sigOf a b c d = (v4 a b c d, 4) := by
  rw [sigOf, if_neg (by omega), if_neg (by omega), if_neg (by omega), if_pos ⟨h, h', hb, hc, hd, hv, hs⟩]
theorem sig_x (h : ¬ a < 128) (h2 : ¬ (194 ≤ a ∧ a < 224 ∧ mid b = true)) (h3 : ¬ (224 ≤ a ∧ a < 240 ∧ mid b = true ∧ mid c = true ∧ 2048 ≤ v3 a b c ∧ ¬ (55296 ≤ v3 a b c ∧ v3 a b c < 57344)))
    (h4 : ¬ (240 ≤ a ∧ a < 248 ∧ mid b = true ∧ mid c = true ∧ mid d = true ∧ 65536 ≤ v4 a b c d ∧ v4 a b c d < 1114112)) : sigOf a b c d = (65533, 1) := by
  rw [sigOf, if_neg h, if_neg h2, if_neg h3, if_neg h4]
end
theorem valid_nat (v : Nat) : Utf8.valid (v : Int) = true ↔ v < 55296 ∨ (57344 ≤ v ∧ v < 1114112) := by
  rw [Utf8.valid, Bool.or_eq_true, Bool.and_eq_true, Bool.and_eq_true, decide_eq_true_iff, decide_eq_true_iff, decide_eq_true_iff, decide_eq_true_iff]
  omega
theorem dec_sig (s : ByteArray) (i : Nat) : Utf8.decode s i = sig ((byt s).drop i) := by
  have hg : ∀ k, (s.get! (i + k)).toNat = ((byt s).drop i).getD k 0 := fun k => by
    rw [← byt_getD, List.getD_eq_getElem?_getD, List.getD_eq_getElem?_getD, List.getElem?_drop]
  have hc : ∀ k, (decide (i + k < s.size) && ((byt s).drop i).getD k 0 / 64 == 2) = mid (((byt s).drop i).getD k 0) := fun k => by
    by_cases h : i + k < s.size
    · rw [decide_eq_true h, Bool.true_and, mid]
      generalize ((byt s).drop i).getD k 0 = x
      by_cases hm : 128 ≤ x ∧ x < 192
      · rw [decide_eq_true hm]; exact beq_iff_eq.2 (by omega)
      · rw [decide_eq_false hm]; exact beq_eq_false_iff_ne.2 (by omega)
    · have h0 : ((byt s).drop i).getD k 0 = 0 := by
        rw [List.getD_eq_getElem?_getD, List.getElem?_eq_none (by rw [List.length_drop, byt_length]; omega)]; rfl
      rw [h0, decide_eq_false h]; rfl
  have hl : ∀ k, ((byt s).drop i).getD k 0 < 256 := fun k => by rw [← hg]; exact UInt8.toNat_lt _
  have l0 := hl 0; have l1 := hl 1; have l2 := hl 2; have l3 := hl 3
  simp only [Utf8.decode, hg, hc, sig]
  generalize ((byt s).drop i).getD 0 0 = a at *
  generalize ((byt s).drop i).getD 1 0 = b at *
  generalize ((byt s).drop i).getD 2 0 = c at *
  generalize ((byt s).drop i).getD 3 0 = d at *
  clear hg hc hl
  have hre : Utf8.runeError = 65533 := rfl
  rw [hre]
  by_cases ha : a < 128
  · rw [if_pos ha, sig_1 ha]
  rw [if_neg ha]
  by_cases h2 : (a / 32 == 6 && mid b) = true
  · rw [if_pos h2]
    rw [Bool.and_eq_true, beq_iff_eq] at h2
    obtain ⟨h2, hb⟩ := h2
    have hb' := mid_of hb
    by_cases h4 : 194 ≤ a
    · have e : a % 32 * 64 + b % 64 = (a - 192) * 64 + (b - 128) := by omega
      rw [if_pos (by omega), sig_2 h4 (by omega) hb, e]
    · rw [if_neg (by omega), sig_x ha (by omega) (by omega) (by omega)]
  rw [if_neg h2]
  have g2 : ¬ (194 ≤ a ∧ a < 224 ∧ mid b = true) := fun h => h2 (by rw [Bool.and_eq_true, beq_iff_eq]; exact ⟨by omega, h.2.2⟩)
  by_cases h3 : (a / 16 == 14 && mid b && mid c) = true
  · rw [if_pos h3]
    rw [Bool.and_eq_true, Bool.and_eq_true, beq_iff_eq] at h3
    obtain ⟨⟨h3, hb⟩, hcc⟩ := h3
    have hb' := mid_of hb
    have hc' := mid_of hcc
    have hv : a % 16 * 4096 + b % 64 * 64 + c % 64 = v3 a b c := by unfold v3; omega
    have hlt : v3 a b c < 65536 := by unfold v3; omega
    rw [hv]
    by_cases hq : 2048 ≤ v3 a b c ∧ ¬ (55296 ≤ v3 a b c ∧ v3 a b c < 57344)
    · rw [if_pos (by rw [Bool.and_eq_true, decide_eq_true_iff, valid_nat]; omega), sig_3 (by omega) (by omega) hb hcc hq.1 hq.2]
    · rw [if_neg (by rw [Bool.and_eq_true, decide_eq_true_iff, valid_nat]; omega), sig_x ha g2 (fun h => hq h.2.2.2.2) (by omega)]
  rw [if_neg h3]
  have g3 : ¬ (224 ≤ a ∧ a < 240 ∧ mid b = true ∧ mid c = true ∧ 2048 ≤ v3 a b c ∧ ¬ (55296 ≤ v3 a b c ∧ v3 a b c < 57344)) := fun h => h3 (by rw [Bool.and_eq_true, Bool.and_eq_true, beq_iff_eq]; exact ⟨⟨by omega, h.2.2.1⟩, h.2.2.2.1⟩)
  by_cases h4 : (a / 8 == 30 && mid b && mid c && mid d) = true
  · rw [if_pos h4]
    rw [Bool.and_eq_true, Bool.and_eq_true, Bool.and_eq_true, beq_iff_eq] at h4
    obtain ⟨⟨⟨h4, hb⟩, hcc⟩, hd⟩ := h4
    have hb' := mid_of hb
    have hc' := mid_of hcc
    have hd' := mid_of hd
    have hv : a % 8 * 262144 + b % 64 * 4096 + c % 64 * 64 + d % 64 = v4 a b c d := by unfold v4; omega
    rw [hv]
    by_cases hq : 65536 ≤ v4 a b c d ∧ v4 a b c d < 1114112
    · rw [if_pos (by rw [Bool.and_eq_true, decide_eq_true_iff, valid_nat]; omega), sig_4 (by omega) (by omega) hb hcc hd hq.1 hq.2]
    · rw [if_neg (by rw [Bool.and_eq_true, decide_eq_true_iff, valid_nat]; omega), sig_x ha g2 g3 (fun h => hq h.2.2.2.2.2)]
  rw [if_neg h4, sig_x ha g2 g3 (fun h => h4 (by rw [Bool.and_eq_true, Bool.and_eq_true, Bool.and_eq_true, beq_iff_eq]; exact ⟨⟨⟨by omega, h.2.2.1⟩, h.2.2.2.1⟩, h.2.2.2.2.1⟩))]
end Go.Proofs.Ytembafogbfcajaa
