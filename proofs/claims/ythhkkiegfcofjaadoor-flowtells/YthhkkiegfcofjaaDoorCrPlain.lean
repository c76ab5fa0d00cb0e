/- The plain mathematics of sums of bytes: halvings, the sum, what is sealed, what is good; linearity, and that nothing is lost. No condition. -/
import Derived.Test.YthhkkiegfcofjaaDoorWords
namespace Go.Proofs.YthhkkiegfcofjaaDoor

/-- One halving, with the pattern turned round where the lowest bit was 1. -/
def hv (n : Nat) : Nat := if n % 2 = 0 then n / 2 else n / 2 ^^^ 3988292384
def hvN : Nat → Nat → Nat
  | 0, n => n
  | k + 1, n => hvN k (hv n)
def stp (n d : Nat) : Nat := hvN 8 (n ^^^ d)
def fol (n : Nat) (bs : List Nat) : Nat := bs.foldl stp n
def flip32 (n : Nat) : Nat := n ^^^ 4294967295
def withL (s : Nat) (bs : List Nat) : Nat := flip32 (fol (flip32 s) bs)
def sumL (bs : List Nat) : Nat := withL 0 bs
def le4 (n : Nat) : List Nat := [n % 256, n / 256 % 256, n / 65536 % 256, n / 16777216 % 256]
def sealL (bs : List Nat) : List Nat := bs ++ le4 (sumL bs)
def goodL (bs : List Nat) : Bool := decide (4 ≤ bs.length) && (bs.drop (bs.length - 4) == le4 (sumL (bs.take (bs.length - 4))))
/-- Bytes as one number, the lowest one first. -/
def val : List Nat → Nat
  | [] => 0
  | d :: r => d + 256 * val r

theorem xor4 (a b c d : Nat) : a ^^^ b ^^^ (c ^^^ d) = a ^^^ c ^^^ (b ^^^ d) := by
  rw [Nat.xor_assoc, Nat.xor_assoc, ← Nat.xor_assoc b, ← Nat.xor_assoc c, Nat.xor_comm b c]
theorem xor_cancel {a b : Nat} (h : a ^^^ b = 0) : a = b := by
  have : a ^^^ b ^^^ b = 0 ^^^ b := by rw [h]
  rw [Nat.xor_assoc, Nat.xor_self, Nat.xor_zero, Nat.zero_xor] at this
  exact this
theorem xor_right_inj {a b c : Nat} (h : a ^^^ c = b ^^^ c) : a = b := by
  have : a ^^^ c ^^^ c = b ^^^ c ^^^ c := by rw [h]
  rwa [Nat.xor_assoc, Nat.xor_self, Nat.xor_zero, Nat.xor_assoc, Nat.xor_self, Nat.xor_zero] at this
theorem xor_lt32 {a b : Nat} (ha : a < 4294967296) (hb : b < 4294967296) : a ^^^ b < 4294967296 :=
  Nat.xor_lt_two_pow (n := 32) ha hb
theorem xor_lt8 {a b : Nat} (ha : a < 256) (hb : b < 256) : a ^^^ b < 256 :=
  Nat.xor_lt_two_pow (n := 8) ha hb
theorem xor_mul_pow (a b k : Nat) : (a ^^^ b) * 2 ^ k = a * 2 ^ k ^^^ b * 2 ^ k := by
  rw [← Nat.shiftLeft_eq, ← Nat.shiftLeft_eq, ← Nat.shiftLeft_eq, Nat.shiftLeft_xor_distrib]
/-- Below a power of two, and a multiple of it: the sum is what is odd of both. -/
theorem add_eq_xor {a b k : Nat} (ha : a < 2 ^ k) : a + 2 ^ k * b = a ^^^ 2 ^ k * b := by
  apply Nat.eq_of_testBit_eq
  intro i
  rw [Nat.testBit_xor, Nat.add_comm, Nat.testBit_two_pow_mul_add _ ha, Nat.testBit_two_pow_mul]
  by_cases h : i < k
  · simp [h, Nat.not_le.2 h]
  · have : a.testBit i = false := Nat.testBit_lt_two_pow (Nat.lt_of_lt_of_le ha (Nat.pow_le_pow_right (by omega) (by omega)))
    simp [h, this, Nat.not_lt.1 h]

theorem xor_mod2 (a b : Nat) : (a ^^^ b) % 2 = (a + b) % 2 := by
  have h := Nat.xor_mod_two_pow (a := a) (b := b) (n := 1)
  rw [show (2 : Nat) ^ 1 = 2 from rfl] at h
  rw [h]
  rcases Nat.mod_two_eq_zero_or_one a with ha | ha <;> rcases Nat.mod_two_eq_zero_or_one b with hb | hb <;> rw [ha, hb] <;> simp <;> omega
theorem hv_xor (a b : Nat) : hv (a ^^^ b) = hv a ^^^ hv b := by
  have h1 : (a ^^^ b) / 2 = a / 2 ^^^ b / 2 := Nat.xor_div_two
  have h2 : (a ^^^ b) % 2 = (a + b) % 2 := xor_mod2 _ _
  unfold hv
  rw [h1, h2]
  by_cases ha : a % 2 = 0 <;> by_cases hb : b % 2 = 0
  · rw [if_pos (by omega), if_pos ha, if_pos hb]
  · rw [if_neg (by omega), if_pos ha, if_neg hb, Nat.xor_assoc]
  · rw [if_neg (by omega), if_neg ha, if_pos hb, Nat.xor_assoc, Nat.xor_assoc, Nat.xor_comm (b / 2)]
  · rw [if_pos (by omega), if_neg ha, if_neg hb, xor4, Nat.xor_self, Nat.xor_zero]
theorem hv_even (m : Nat) : hv (2 * m) = m := by
  unfold hv; rw [if_pos (by omega)]; omega
theorem hv_lt {n : Nat} (h : n < 4294967296) : hv n < 4294967296 := by
  unfold hv; split
  · omega
  · exact xor_lt32 (by omega) (by omega)
theorem hv_zero {n : Nat} (h : n < 4294967296) (h0 : hv n = 0) : n = 0 := by
  unfold hv at h0; split at h0
  · omega
  · have := xor_cancel h0; omega

theorem hvN_xor : ∀ (k a b : Nat), hvN k (a ^^^ b) = hvN k a ^^^ hvN k b
  | 0, _, _ => rfl
  | k + 1, a, b => by rw [hvN, hvN, hvN, hv_xor, hvN_xor k]
theorem hvN_lt : ∀ (k : Nat) {n : Nat}, n < 4294967296 → hvN k n < 4294967296
  | 0, _, h => h
  | k + 1, _, h => hvN_lt k (hv_lt h)
theorem hvN_zero : ∀ (k : Nat) {n : Nat}, n < 4294967296 → hvN k n = 0 → n = 0
  | 0, _, _, h0 => h0
  | k + 1, _, h, h0 => hv_zero h (hvN_zero k (hv_lt h) h0)
theorem hvN_inj (k : Nat) {a b : Nat} (ha : a < 4294967296) (hb : b < 4294967296) (h : hvN k a = hvN k b) : a = b := by
  apply xor_cancel
  apply hvN_zero k (xor_lt32 ha hb)
  rw [hvN_xor, h, Nat.xor_self]
theorem hvN_pow : ∀ (k m : Nat), hvN k (2 ^ k * m) = m
  | 0, m => by simp [hvN]
  | k + 1, m => by rw [hvN, Nat.pow_succ, Nat.mul_comm (2 ^ k) 2, Nat.mul_assoc, hv_even, hvN_pow k]
theorem hvN_add : ∀ (j k n : Nat), hvN (j + k) n = hvN k (hvN j n)
  | 0, k, n => by rw [Nat.zero_add]; rfl
  | j + 1, k, n => by rw [Nat.add_right_comm, hvN, hvN, hvN_add j k]

/-- Eight bits at once: what the table tells of the lowest byte, and the rest moved down. -/
theorem stp_table (n d : Nat) : stp n d = n / 256 ^^^ hvN 8 (n % 256 ^^^ d) := by
  have e : n = n % 256 ^^^ 256 * (n / 256) := by
    have h := add_eq_xor (a := n % 256) (b := n / 256) (k := 8) (Nat.mod_lt _ (by decide))
    rw [show (2 : Nat) ^ 8 = 256 from rfl] at h
    rw [← h]; omega
  unfold stp
  conv => lhs; rw [e]
  rw [Nat.xor_comm (n % 256), Nat.xor_assoc, hvN_xor, show (256 : Nat) = 2 ^ 8 from rfl, hvN_pow]
theorem stp_lt {n d : Nat} (hn : n < 4294967296) (hd : d < 256) : stp n d < 4294967296 := hvN_lt 8 (xor_lt32 hn (by omega))
theorem fol_lt : ∀ (bs : List Nat) {n : Nat}, n < 4294967296 → (∀ x ∈ bs, x < 256) → fol n bs < 4294967296
  | [], _, h, _ => h
  | d :: r, _, h, hb => fol_lt r (stp_lt h (hb d (by simp))) (fun x hx => hb x (by simp [hx]))
theorem flip_lt {n : Nat} (h : n < 4294967296) : flip32 n < 4294967296 := xor_lt32 h (by omega)
theorem flip_flip (n : Nat) : flip32 (flip32 n) = n := by unfold flip32; rw [Nat.xor_assoc, Nat.xor_self, Nat.xor_zero]
theorem flip_inj {a b : Nat} (h : flip32 a = flip32 b) : a = b := xor_right_inj h
theorem withL_lt {s : Nat} {bs : List Nat} (h : s < 4294967296) (hb : ∀ x ∈ bs, x < 256) : withL s bs < 4294967296 := flip_lt (fol_lt bs (flip_lt h) hb)
theorem sumL_lt {bs : List Nat} (hb : ∀ x ∈ bs, x < 256) : sumL bs < 4294967296 := withL_lt (by omega) hb
theorem fol_append (n : Nat) (a b : List Nat) : fol n (a ++ b) = fol (fol n a) b := by simp [fol, List.foldl_append]
theorem withL_nil (s : Nat) : withL s [] = s := flip_flip s
theorem withL_append (s : Nat) (a b : List Nat) : withL s (a ++ b) = withL (withL s a) b := by unfold withL; rw [flip_flip, fol_append]

/-- The fold over bytes, by the one number that they are. -/
theorem fol_val : ∀ (bs : List Nat) (n : Nat), (∀ x ∈ bs, x < 256) → fol n bs = hvN (8 * bs.length) (n ^^^ val bs)
  | [], n, _ => by simp [fol, val, hvN]
  | d :: r, n, hb => by
    have hd : d < 2 ^ 8 := hb d (by simp)
    show fol (stp n d) r = _
    rw [fol_val r _ (fun x hx => hb x (by simp [hx])), List.length_cons, Nat.mul_add, Nat.add_comm (8 * r.length), Nat.mul_one, hvN_add, val]
    congr 1
    rw [show (256 : Nat) = 2 ^ 8 from rfl, add_eq_xor hd, ← Nat.xor_assoc, hvN_xor 8 (n ^^^ d), hvN_pow]; rfl
theorem fol_inj (bs : List Nat) {a b : Nat} (hb : ∀ x ∈ bs, x < 256) (ha : a < 4294967296) (hb' : b < 4294967296) (h : fol a bs = fol b bs) : a = b := by
  rw [fol_val bs a hb, fol_val bs b hb, hvN_xor, hvN_xor] at h
  exact hvN_inj _ ha hb' (xor_right_inj h)
theorem withL_inj (bs : List Nat) {a b : Nat} (hb : ∀ x ∈ bs, x < 256) (ha : a < 4294967296) (hb' : b < 4294967296) (h : withL a bs = withL b bs) : a = b :=
  flip_inj (fol_inj bs hb (flip_lt ha) (flip_lt hb') (flip_inj h))
theorem stp_inj {n d e : Nat} (hn : n < 4294967296) (hd : d < 256) (he : e < 256) (h : stp n d = stp n e) : d = e := by
  have := hvN_inj 8 (xor_lt32 hn (by omega)) (xor_lt32 hn (by omega)) h
  rw [Nat.xor_comm n, Nat.xor_comm n] at this
  exact xor_right_inj this
theorem sum_other (p r : List Nat) {d e : Nat} (hp : ∀ x ∈ p, x < 256) (hr : ∀ x ∈ r, x < 256) (hd : d < 256) (he : e < 256) (h : sumL (p ++ d :: r) = sumL (p ++ e :: r)) : d = e := by
  unfold sumL withL at h
  have h := flip_inj h
  rw [fol_append, fol_append] at h
  have hl := fol_lt p (n := flip32 0) (by decide) hp
  exact stp_inj hl hd he (fol_inj r hr (stp_lt hl hd) (stp_lt hl he) h)

/-- Of three of as many bytes: what is odd. -/
def xor3 : List Nat → List Nat → List Nat → List Nat
  | a :: p, b :: q, c :: r => (a ^^^ b ^^^ c) :: xor3 p q r
  | _, _, _ => []
theorem stp3 (x y z a b c : Nat) : stp (x ^^^ y ^^^ z) (a ^^^ b ^^^ c) = stp x a ^^^ stp y b ^^^ stp z c := by
  unfold stp
  rw [← hvN_xor, ← hvN_xor]
  congr 1
  rw [xor4 (x ^^^ y), xor4 x]
theorem fol3 : ∀ (p q r : List Nat) (x y z : Nat), q.length = p.length → r.length = p.length → fol (x ^^^ y ^^^ z) (xor3 p q r) = fol x p ^^^ fol y q ^^^ fol z r
  | [], [], [], _, _, _, _, _ => rfl
  | a :: p, b :: q, c :: r, x, y, z, h1, h2 => by
    simp only [List.length_cons, Nat.add_right_cancel_iff] at h1 h2
    show fol (stp (x ^^^ y ^^^ z) (a ^^^ b ^^^ c)) (xor3 p q r) = fol (stp x a) p ^^^ fol (stp y b) q ^^^ fol (stp z c) r
    rw [stp3, fol3 p q r _ _ _ h1 h2]
  | [], _ :: _, _, _, _, _, h, _ => by simp at h
  | [], [], _ :: _, _, _, _, _, h => by simp at h
  | _ :: _, [], _, _, _, _, h, _ => by simp at h
  | _ :: _, _ :: _, [], _, _, _, _, h => by simp at h
theorem sum3 (p q r : List Nat) (h1 : q.length = p.length) (h2 : r.length = p.length) : sumL (xor3 p q r) = sumL p ^^^ sumL q ^^^ sumL r := by
  have h := fol3 p q r (flip32 0) (flip32 0) (flip32 0) h1 h2
  have e : flip32 0 ^^^ flip32 0 ^^^ flip32 0 = flip32 0 := by decide
  rw [e] at h
  unfold sumL withL
  rw [h]
  generalize fol (flip32 0) p = u
  generalize fol (flip32 0) q = v
  generalize fol (flip32 0) r = t
  unfold flip32
  rw [xor4 u, Nat.xor_self, Nat.xor_zero, Nat.xor_assoc]
theorem xor3_length : ∀ (p q r : List Nat), q.length = p.length → r.length = p.length → (xor3 p q r).length = p.length
  | [], [], [], _, _ => rfl
  | a :: p, b :: q, c :: r, h1, h2 => by
    simp only [List.length_cons, Nat.add_right_cancel_iff] at h1 h2
    simp only [xor3, List.length_cons, xor3_length p q r h1 h2]
  | [], _ :: _, _, h, _ => by simp at h
  | [], [], _ :: _, _, h => by simp at h
  | _ :: _, [], _, h, _ => by simp at h
  | _ :: _, _ :: _, [], _, h => by simp at h
theorem xor3_take : ∀ (p q r : List Nat) (k : Nat), k < p.length → q.length = p.length → r.length = p.length → xor3 (p.take (k + 1)) (q.take (k + 1)) (r.take (k + 1)) = xor3 (p.take k) (q.take k) (r.take k) ++ [p.getD k 0 ^^^ q.getD k 0 ^^^ r.getD k 0]
  | a :: p, b :: q, c :: r, 0, _, _, _ => by simp [xor3]
  | a :: p, b :: q, c :: r, k + 1, h, h1, h2 => by
    simp only [List.length_cons, Nat.add_right_cancel_iff] at h1 h2
    have := xor3_take p q r k (by simpa using h) h1 h2
    simp only [List.take_succ_cons, xor3, List.cons_append, List.getD_cons_succ] at this ⊢
    rw [this]
  | [], _, _, _, h, _, _ => by simp at h
  | _ :: _, [], _, _, _, h, _ => by simp at h
  | _ :: _, _ :: _, [], _, _, _, h => by simp at h
theorem xor3_byte : ∀ (p q r : List Nat), (∀ x ∈ p, x < 256) → (∀ x ∈ q, x < 256) → (∀ x ∈ r, x < 256) → ∀ x ∈ xor3 p q r, x < 256
  | a :: p, b :: q, c :: r, h1, h2, h3 => by
    intro x hx
    simp only [xor3, List.mem_cons] at hx
    rcases hx with rfl | hx
    · exact xor_lt8 (xor_lt8 (h1 a (by simp)) (h2 b (by simp))) (h3 c (by simp))
    · exact xor3_byte p q r (fun x h => h1 x (by simp [h])) (fun x h => h2 x (by simp [h])) (fun x h => h3 x (by simp [h])) x hx
  | [], _, _, _, _, _ => by simp [xor3]
  | _ :: _, [], _, _, _, _ => by simp [xor3]
  | _ :: _, _ :: _, [], _, _, _ => by simp [xor3]

theorem le4_byte (n : Nat) : ∀ x ∈ le4 n, x < 256 := by
  intro x hx
  simp only [le4, List.mem_cons, List.not_mem_nil, or_false] at hx
  omega
theorem le4_length (n : Nat) : (le4 n).length = 4 := rfl
theorem val_le4 {n : Nat} (h : n < 4294967296) : val (le4 n) = n := by
  simp only [le4, val]; omega
theorem val4_inj : ∀ {a b : List Nat}, a.length = 4 → b.length = 4 → (∀ x ∈ a, x < 256) → (∀ x ∈ b, x < 256) → val a = val b → a = b
  | [a, b, c, d], [e, f, g, i], _, _, ha, hb, h => by
    simp only [List.mem_cons, List.not_mem_nil, or_false, forall_eq_or_imp, forall_eq] at ha hb
    simp only [val] at h
    have : a = e ∧ b = f ∧ c = g ∧ d = i := by omega
    simp [this]
theorem val4_lt : ∀ {a : List Nat}, a.length = 4 → (∀ x ∈ a, x < 256) → val a < 4294967296
  | [a, b, c, d], _, ha => by
    simp only [List.mem_cons, List.not_mem_nil, or_false, forall_eq_or_imp, forall_eq] at ha
    simp only [val]; omega
theorem sealL_byte {bs : List Nat} (h : ∀ x ∈ bs, x < 256) : ∀ x ∈ sealL bs, x < 256 := by
  intro x hx
  rcases List.mem_append.1 hx with h' | h'
  · exact h x h'
  · exact le4_byte _ x h'
theorem sealL_length (bs : List Nat) : (sealL bs).length = bs.length + 4 := by simp [sealL, le4_length]
theorem sealL_take (bs : List Nat) : (sealL bs).take bs.length = bs := by simp [sealL]
theorem good_seal (bs : List Nat) : goodL (sealL bs) = true := by
  unfold goodL
  rw [sealL_length, Nat.add_sub_cancel, sealL_take]
  simp [sealL]
theorem good_is_seal {bs : List Nat} (h : goodL bs = true) : 4 ≤ bs.length ∧ sealL (bs.take (bs.length - 4)) = bs := by
  unfold goodL at h
  simp only [Bool.and_eq_true, decide_eq_true_eq, beq_iff_eq] at h
  refine ⟨h.1, ?_⟩
  unfold sealL
  rw [← h.2, List.take_append_drop]
theorem good_iff {bs : List Nat} (hb : ∀ x ∈ bs, x < 256) (h4 : 4 ≤ bs.length) : goodL bs = true ↔ fol (flip32 0) bs = hvN 32 4294967295 := by
  have hp : ∀ x ∈ bs.take (bs.length - 4), x < 256 := fun x hx => hb x (List.mem_of_mem_take hx)
  have ht : ∀ x ∈ bs.drop (bs.length - 4), x < 256 := fun x hx => hb x (List.mem_of_mem_drop hx)
  have htl : (bs.drop (bs.length - 4)).length = 4 := by rw [List.length_drop]; omega
  have e : fol (flip32 0) bs = fol (fol (flip32 0) (bs.take (bs.length - 4))) (bs.drop (bs.length - 4)) := by rw [← fol_append, List.take_append_drop]
  have hs := sumL_lt hp
  have hl := fol_lt (n := flip32 0) (bs.take (bs.length - 4)) (by decide) hp
  unfold goodL
  simp only [h4, decide_true, Bool.true_and, beq_iff_eq]
  rw [e, fol_val _ _ ht, htl]
  unfold sumL withL at hs ⊢
  generalize bs.drop (bs.length - 4) = t at *
  generalize fol (flip32 0) (bs.take (bs.length - 4)) = p at *
  constructor
  · intro h
    rw [h, val_le4 hs]
    unfold flip32
    rw [← Nat.xor_assoc, Nat.xor_self, Nat.zero_xor]
  · intro h
    have := hvN_inj 32 (xor_lt32 hl (val4_lt htl ht)) (by omega) h
    apply val4_inj htl rfl ht (le4_byte _)
    rw [val_le4 hs]
    unfold flip32
    rw [← this, ← Nat.xor_assoc, Nat.xor_self, Nat.zero_xor]
/-- What differs just in some of 32 bits, one behind the other, is not good. -/
theorem burst {s x : List Nat} (hs : ∀ y ∈ s, y < 256) (hx : ∀ y ∈ x, y < 256) (hl : x.length = s.length) (mask a : Nat) (hm : mask < 4294967296) (h0 : mask ≠ 0) (ha : a + 32 ≤ 8 * s.length)
    (hv : val x = val s ^^^ mask * 2 ^ a) (hg : goodL s = true) : goodL x = false := by
  have h4 := (good_is_seal hg).1
  rw [good_iff hs h4] at hg
  cases hgx : goodL x with
  | false => rfl
  | true =>
    exfalso
    rw [good_iff hx (by omega), fol_val _ _ hx, hl, hv, ← Nat.xor_assoc, hvN_xor, ← fol_val _ _ hs, hg] at hgx
    have h : hvN (8 * s.length) (mask * 2 ^ a) = 0 := by
      have : hvN 32 4294967295 ^^^ (hvN 32 4294967295 ^^^ hvN (8 * s.length) (mask * 2 ^ a)) = hvN 32 4294967295 ^^^ hvN 32 4294967295 := by rw [hgx]
      rw [← Nat.xor_assoc, Nat.xor_self, Nat.zero_xor] at this
      exact this
    rw [show 8 * s.length = a + (8 * s.length - a) by omega, hvN_add, Nat.mul_comm mask, hvN_pow] at h
    exact h0 (hvN_zero _ hm h)
theorem val_set : ∀ (x : List Nat) (j b : Nat), j < x.length → (∀ y ∈ x, y < 256) → b < 256 → val (x.set j (x.getD j 0 ^^^ b)) = val x ^^^ b * 256 ^ j
  | d :: r, 0, b, _, hx, hb => by
    have hd : d < 2 ^ 8 := hx d (by simp)
    have hdb : d ^^^ b < 2 ^ 8 := xor_lt8 hd hb
    simp only [List.set_cons_zero, List.getD_cons_zero, val, Nat.pow_zero, Nat.mul_one]
    rw [show (256 : Nat) = 2 ^ 8 from rfl, add_eq_xor hd, add_eq_xor hdb, Nat.xor_assoc, Nat.xor_assoc, Nat.xor_comm b]
  | d :: r, j + 1, b, h, hx, hb => by
    have hd : d < 2 ^ 8 := hx d (by simp)
    simp only [List.set_cons_succ, List.getD_cons_succ, val]
    rw [val_set r j b (by simpa using h) (fun y hy => hx y (by simp [hy])) hb, show (256 : Nat) = 2 ^ 8 from rfl, add_eq_xor hd, add_eq_xor hd, Nat.mul_comm, xor_mul_pow, Nat.xor_assoc, Nat.mul_comm (val r), Nat.mul_assoc b, ← Nat.pow_succ]
  | [], _, _, h, _, _ => by simp at h

/-- The document's own turn, by a bit. -/
theorem turn_hv (n b : Nat) (hb : b < 2) : (if n % 2 ≠ b then n / 2 ^^^ 3988292384 else n / 2) = hv (n ^^^ b) := by
  have h1 : (n ^^^ b) / 2 = n / 2 ^^^ b / 2 := Nat.xor_div_two
  have h2 : (n ^^^ b) % 2 = (n + b) % 2 := xor_mod2 _ _
  unfold hv
  rw [h1, h2, show b / 2 = 0 by omega, Nat.xor_zero]
  by_cases h : n % 2 = b
  · rw [if_neg (by omega), if_pos (by omega)]
  · rw [if_pos h, if_neg (by omega)]
theorem turn_next (n c k : Nat) : hvN (k + 1) (n ^^^ c) = hvN k (hv (n ^^^ c % 2) ^^^ c / 2) := by
  have e : c = c % 2 ^^^ 2 * (c / 2) := by
    have h := add_eq_xor (a := c % 2) (b := c / 2) (k := 1) (Nat.mod_lt _ (by decide))
    rw [show (2 : Nat) ^ 1 = 2 from rfl] at h
    rw [← h]; omega
  rw [hvN]
  congr 1
  conv => lhs; rw [e]
  rw [← Nat.xor_assoc, hv_xor, hv_even]

/-- The table: where bit is a power of two, and low a multiple of twice as much. -/
theorem tab_add (k low : Nat) (h : low % 2 ^ (k + 1) = 0) : hvN 8 (low + 2 ^ k) = hvN 8 low ^^^ hvN 8 (2 ^ k) := by
  obtain ⟨m, rfl⟩ : ∃ m, low = 2 ^ (k + 1) * m := ⟨low / 2 ^ (k + 1), by have := Nat.div_add_mod low (2 ^ (k + 1)); omega⟩
  rw [Nat.add_comm, add_eq_xor (Nat.pow_lt_pow_right (by omega) (by omega)), Nat.xor_comm, hvN_xor]
end Go.Proofs.YthhkkiegfcofjaaDoor
