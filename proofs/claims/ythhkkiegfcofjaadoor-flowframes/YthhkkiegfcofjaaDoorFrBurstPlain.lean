/- Damage of some of 32 bits, one behind the other, within a frame's bytes: it is refused. No program. No condition. -/
import Derived.Test.YthhkkiegfcofjaaDoorFrPlain
namespace Go.Proofs.YthhkkiegfcofjaaDoor

theorem val_take : ∀ (k : Nat) (x : List Nat), (∀ y ∈ x, y < 256) → val (x.take k) = val x % 256 ^ k
  | 0, x, _ => by simp [val, Nat.mod_one]
  | k + 1, [], _ => by simp [val]
  | k + 1, d :: r, h => by
    have hd : d < 256 := h d (by simp)
    have ih := val_take k r fun y hy => h y (by simp [hy])
    simp only [List.take_succ_cons, val]
    rw [ih, Nat.pow_succ, Nat.mul_comm (256 ^ k) 256, Nat.mod_mul, Nat.add_mul_mod_self_left, Nat.mod_eq_of_lt hd, Nat.add_mul_div_left _ _ (by omega), Nat.div_eq_of_lt hd, Nat.zero_add]
theorem val_drop : ∀ (k : Nat) (x : List Nat), (∀ y ∈ x, y < 256) → val (x.drop k) = val x / 256 ^ k
  | 0, x, _ => by simp
  | k + 1, [], _ => by simp [val]
  | k + 1, d :: r, h => by
    have hd : d < 256 := h d (by simp)
    have ih := val_drop k r fun y hy => h y (by simp [hy])
    simp only [List.drop_succ_cons, val]
    rw [ih, Nat.pow_succ, Nat.mul_comm (256 ^ k) 256, ← Nat.div_div_eq_div_mul, Nat.add_mul_div_left _ _ (by omega), Nat.div_eq_of_lt hd, Nat.zero_add]
theorem val_inj : ∀ (x y : List Nat), x.length = y.length → (∀ z ∈ x, z < 256) → (∀ z ∈ y, z < 256) → val x = val y → x = y
  | [], [], _, _, _, _ => rfl
  | a :: x, b :: y, hl, hx, hy, h => by
    have ha : a < 256 := hx a (by simp)
    have hb : b < 256 := hy b (by simp)
    simp only [val] at h
    have h1 : a = b := by omega
    have h2 : val x = val y := by omega
    rw [h1, val_inj x y (by simpa using hl) (fun z hz => hx z (by simp [hz])) (fun z hz => hy z (by simp [hz])) h2]
  | [], _ :: _, hl, _, _, _ => by simp at hl
  | _ :: _, [], hl, _, _, _ => by simp at hl
theorem pow_split (a b : Nat) (h : a ≤ b) : 2 ^ b = 2 ^ (b - a) * 2 ^ a := by rw [← Nat.pow_add]; congr 1; omega
/-- The part of a window that lies within the first 48 bits. -/
theorem window_low {mask a : Nat} (hm : mask < 4294967296) (h : mask * 2 ^ a % 2 ^ 48 ≠ 0) : ∃ m a', m < 4294967296 ∧ m ≠ 0 ∧ a' + 32 ≤ 48 ∧ mask * 2 ^ a % 2 ^ 48 = m * 2 ^ a' := by
  by_cases h1 : a ≤ 16
  · refine ⟨mask, a, hm, fun e => h (by rw [e]; simp), by omega, Nat.mod_eq_of_lt ?_⟩
    have : 2 ^ a ≤ 2 ^ 16 := Nat.pow_le_pow_right (by omega) h1
    calc mask * 2 ^ a ≤ mask * 2 ^ 16 := Nat.mul_le_mul_left _ this
      _ < 2 ^ 48 := by omega
  · by_cases h2 : a < 48
    · have e : mask * 2 ^ a % 2 ^ 48 = mask % 2 ^ (48 - a) * 2 ^ a := by rw [pow_split a 48 (by omega), Nat.mul_mod_mul_right]
      have e2 : mask % 2 ^ (48 - a) * 2 ^ a = mask % 2 ^ (48 - a) * 2 ^ (a - 16) * 2 ^ 16 := by rw [pow_split 16 a (by omega), Nat.mul_assoc]
      refine ⟨mask % 2 ^ (48 - a) * 2 ^ (a - 16), 16, ?_, fun e3 => h (by rw [e, e2, e3]), by omega, e.trans e2⟩
      have h3 : mask % 2 ^ (48 - a) < 2 ^ (48 - a) := Nat.mod_lt _ (Nat.pow_pos (by omega))
      have h4 : 2 ^ (48 - a) * 2 ^ (a - 16) = 4294967296 := by rw [← Nat.pow_add, show 48 - a + (a - 16) = 32 by omega]
      rw [← h4]
      exact Nat.mul_lt_mul_of_pos_right h3 (Nat.pow_pos (by omega))
    · refine (h ?_).elim
      rw [pow_split 48 a (by omega), ← Nat.mul_assoc, Nat.mul_mod_left]
/-- The part of a window behind the first 48 bits, if nothing of it lies within them. -/
theorem window_high {mask a n : Nat} (hm : mask < 4294967296) (h0 : mask ≠ 0) (ha : a + 32 ≤ 48 + n) (hn : 32 ≤ n) (h : mask * 2 ^ a % 2 ^ 48 = 0) : ∃ m a', m < 4294967296 ∧ m ≠ 0 ∧ a' + 32 ≤ n ∧ mask * 2 ^ a / 2 ^ 48 = m * 2 ^ a' := by
  by_cases h1 : a < 48
  · refine ⟨mask * 2 ^ a / 2 ^ 48, 0, ?_, fun e => ?_, by omega, by simp⟩
    · rw [Nat.div_lt_iff_lt_mul (Nat.pow_pos (by omega))]
      have h2 : 2 ^ a ≤ 2 ^ 48 := Nat.pow_le_pow_right (by omega) (by omega)
      calc mask * 2 ^ a < 4294967296 * 2 ^ a := Nat.mul_lt_mul_of_pos_right hm (Nat.pow_pos (by omega))
        _ ≤ 4294967296 * 2 ^ 48 := Nat.mul_le_mul_left _ h2
    · have h2 := Nat.div_add_mod (mask * 2 ^ a) (2 ^ 48)
      rw [e, h] at h2
      rcases Nat.mul_eq_zero.1 (show mask * 2 ^ a = 0 by omega) with h3 | h3
      · exact h0 h3
      · exact absurd h3 (Nat.ne_of_gt (Nat.pow_pos (by omega)))
  · refine ⟨mask, a - 48, hm, h0, by omega, ?_⟩
    rw [pow_split 48 a (by omega), ← Nat.mul_assoc, Nat.mul_div_cancel _ (Nat.pow_pos (by omega))]
theorem frame_burst {q : Nat} {body x : List Nat} (hq : q < 256) (hl : body.length < 256) (hb : ∀ y ∈ body, y < 256) (hx : ∀ y ∈ x, y < 256) (hxl : x.length = body.length + 10) (mask a : Nat) (hm : mask < 4294967296) (h0 : mask ≠ 0) (ha : a + 32 ≤ 8 * (body.length + 10))
    (hv : val x = val (putL q body) ^^^ mask * 2 ^ a) (r : List Nat) : getE (x ++ r) ≠ 0 := by
  intro hE
  obtain ⟨_, hg, _, hgb⟩ := get_ok hE
  have hpb := putL_byte (k := q) hq hl hb
  have hpl := putL_length q body
  have e256 : (256 : Nat) ^ 6 = 2 ^ 48 := by decide
  have hx6 : (x ++ r).take 6 = x.take 6 := List.take_append_of_le_length (by omega)
  have hp6 := putL_take6 q body []
  have hp7 := putL_drop6 q body []
  rw [List.append_nil] at hp6 hp7
  rw [List.append_nil] at hp7
  have hv1 : val (x.take 6) = val (sealL [q, body.length]) ^^^ mask * 2 ^ a % 2 ^ 48 := by
    rw [val_take 6 x hx, hv, e256, Nat.xor_mod_two_pow, ← hp6, val_take 6 _ hpb, e256]
  have hsb : ∀ y ∈ sealL [q, body.length], y < 256 := sealL_byte (by intro y hy; simp at hy; omega)
  have hsl : (sealL [q, body.length]).length = 6 := head_length q body.length
  have ht6 : (x.take 6).length = 6 := by rw [List.length_take]; omega
  have htb : ∀ y ∈ x.take 6, y < 256 := fun y hy => hx y (List.mem_of_mem_take hy)
  by_cases hd : mask * 2 ^ a % 2 ^ 48 = 0
  · rw [hd, Nat.xor_zero] at hv1
    have heq := val_inj _ _ (by rw [ht6, hsl]) htb hsb hv1
    have h1 : (x ++ r).getD 1 0 = body.length := by
      have e1 : (x ++ r).getD 1 0 = ((x ++ r).take 6).getD 1 0 := by rw [List.getD_eq_getElem?_getD, List.getD_eq_getElem?_getD, List.getElem?_take, if_pos (by omega)]
      rw [e1, hx6, heq]
      rfl
    obtain ⟨m, a', hm', hm0, ha', he⟩ := window_high (n := 8 * (body.length + 4)) hm h0 (by omega) (by omega) hd
    have hxd : ((x ++ r).drop 6).take ((x ++ r).getD 1 0 + 4) = x.drop 6 := by
      rw [h1, List.drop_append_of_le_length (by omega), List.take_append_of_le_length (by rw [List.length_drop]; omega), List.take_of_length_le (by rw [List.length_drop]; omega)]
    have hv2 : val (x.drop 6) = val (sealL body) ^^^ m * 2 ^ a' := by
      rw [val_drop 6 x hx, hv, e256, Nat.xor_div_two_pow, he, ← hp7, val_drop 6 _ hpb, e256]
    have := burst (s := sealL body) (x := x.drop 6) (sealL_byte hb) (fun y hy => hx y (List.mem_of_mem_drop hy)) (by rw [List.length_drop, sealL_length]; omega) m a' hm' hm0 (by rw [sealL_length]; omega) hv2 (good_seal _)
    rw [hxd, this] at hgb
    cases hgb
  · obtain ⟨m, a', hm', hm0, ha', he⟩ := window_low hm hd
    rw [he] at hv1
    have := burst (s := sealL [q, body.length]) (x := x.take 6) hsb htb (by rw [ht6, hsl]) m a' hm' hm0 (by rw [hsl]; omega) hv1 (good_seal _)
    rw [hx6, this] at hg
    cases hg
end Go.Proofs.YthhkkiegfcofjaaDoor
