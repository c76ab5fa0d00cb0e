/- Frames, plainly: their bytes, and what bytes are. No program. No condition. -/
import Derived.Test.YthhkkiegfcofjaaDoorCrPlain
namespace Go.Proofs.YthhkkiegfcofjaaDoor

/-- A frame: its kind, its bytes. -/
abbrev Fra := Int × List Nat
def putL (k : Nat) (b : List Nat) : List Nat := sealL [k, b.length] ++ sealL b
/-- Why bytes begin by no frame; 0: they do. -/
def getE (bs : List Nat) : Nat :=
  if bs.length < 6 then 2 else if goodL (bs.take 6) = false then 3 else if bs.length < bs.getD 1 0 + 10 then 2 else if goodL ((bs.drop 6).take (bs.getD 1 0 + 4)) = false then 3 else 0
def getF (bs : List Nat) : Fra := if getE bs = 0 then (((bs.getD 0 0 : Nat) : Int), (bs.drop 6).take (bs.getD 1 0)) else (0, [])
def getN (bs : List Nat) : Nat := if getE bs = 0 then bs.getD 1 0 + 10 else 0

theorem putL_length (k : Nat) (b : List Nat) : (putL k b).length = b.length + 10 := by simp only [putL, List.length_append, sealL_length, List.length_cons, List.length_nil]; omega
theorem putL_byte {k : Nat} {b : List Nat} (hk : k < 256) (hl : b.length < 256) (hb : ∀ x ∈ b, x < 256) : ∀ x ∈ putL k b, x < 256 := by
  intro x hx
  rcases List.mem_append.1 hx with h | h
  · refine sealL_byte (fun y hy => ?_) x h
    simp only [List.mem_cons, List.not_mem_nil, or_false] at hy
    omega
  · exact sealL_byte hb x h
theorem head_length (k n : Nat) : (sealL [k, n]).length = 6 := by rw [sealL_length]; rfl
theorem putL_getD0 (k : Nat) (b r : List Nat) : (putL k b ++ r).getD 0 0 = k := rfl
theorem putL_getD1 (k : Nat) (b r : List Nat) : (putL k b ++ r).getD 1 0 = b.length := rfl
theorem putL_take6 (k : Nat) (b r : List Nat) : (putL k b ++ r).take 6 = sealL [k, b.length] := by
  unfold putL
  rw [List.append_assoc, List.take_append_of_le_length (by rw [head_length]; omega), List.take_of_length_le (by rw [head_length]; omega)]
theorem putL_drop6 (k : Nat) (b r : List Nat) : (putL k b ++ r).drop 6 = sealL b ++ r := by
  unfold putL
  rw [List.append_assoc, List.drop_append_of_le_length (by rw [head_length]; omega), List.drop_of_length_le (by rw [head_length]; omega), List.nil_append]
theorem putL_body (k : Nat) (b r : List Nat) : ((putL k b ++ r).drop 6).take b.length = b := by
  rw [putL_drop6, sealL, List.append_assoc, List.take_append_of_le_length (Nat.le_refl _), List.take_of_length_le (Nat.le_refl _)]
theorem putL_sealed (k : Nat) (b r : List Nat) : ((putL k b ++ r).drop 6).take (b.length + 4) = sealL b := by
  rw [putL_drop6, List.take_append_of_le_length (by rw [sealL_length]; omega), List.take_of_length_le (by rw [sealL_length]; omega)]
/-- What is put is read, whatever stands behind. -/
theorem get_put (k : Nat) (b r : List Nat) : getE (putL k b ++ r) = 0 := by
  unfold getE
  rw [putL_getD1, putL_take6, good_seal, putL_sealed, good_seal, List.length_append, putL_length, if_neg (by omega), if_neg (by simp), if_neg (by omega), if_neg (by simp)]
theorem getF_put (k : Nat) (b r : List Nat) : getF (putL k b ++ r) = (((k : Nat) : Int), b) := by
  unfold getF; rw [if_pos (get_put k b r), putL_getD0, putL_getD1, putL_body]
theorem getN_put (k : Nat) (b r : List Nat) : getN (putL k b ++ r) = b.length + 10 := by
  unfold getN; rw [if_pos (get_put k b r), putL_getD1]
/-- What is read: the bytes' parts. -/
theorem get_ok {bs : List Nat} (h : getE bs = 0) : 6 ≤ bs.length ∧ goodL (bs.take 6) = true ∧ bs.getD 1 0 + 10 ≤ bs.length ∧ goodL ((bs.drop 6).take (bs.getD 1 0 + 4)) = true := by
  unfold getE at h
  split at h
  · cases h
  · split at h
    · cases h
    · split at h
      · cases h
      · split at h
        · cases h
        · rename_i h1 h2 h3 h4
          exact ⟨by omega, by simpa using h2, by omega, by simpa using h4⟩
/-- What is read is put as the same bytes. -/
theorem put_get {bs : List Nat} (h : getE bs = 0) : putL (bs.getD 0 0) ((bs.drop 6).take (bs.getD 1 0)) = bs.take (bs.getD 1 0 + 10) := by
  obtain ⟨h6, hg, hl, hgb⟩ := get_ok h
  have e1 := (good_is_seal hg).2
  have e2 := (good_is_seal hgb).2
  have hl6 : (bs.take 6).length = 6 := by rw [List.length_take]; omega
  have hlb : ((bs.drop 6).take (bs.getD 1 0 + 4)).length = bs.getD 1 0 + 4 := by rw [List.length_take, List.length_drop]; omega
  rw [hl6, List.take_take] at e1
  rw [hlb, List.take_take, Nat.add_sub_cancel, Nat.min_eq_left (by omega)] at e2
  have hlen : ((bs.drop 6).take (bs.getD 1 0)).length = bs.getD 1 0 := by rw [List.length_take, List.length_drop]; omega
  have e0 : bs.take (min (6 - 4) 6) = [bs.getD 0 0, bs.getD 1 0] := by
    match bs, h6 with
    | a :: b :: r, _ => rfl
  unfold putL
  rw [hlen, ← e0, e1, e2, show bs.getD 1 0 + 10 = 6 + (bs.getD 1 0 + 4) by omega]
  exact List.take_add.symm
theorem get_bad {bs : List Nat} (h : getE bs ≠ 0) : getF bs = (0, []) ∧ getN bs = 0 := by unfold getF getN; rw [if_neg h, if_neg h]; exact ⟨rfl, rfl⟩
theorem get_fine {bs : List Nat} (h : getE bs = 0) : getF bs = (((bs.getD 0 0 : Nat) : Int), (bs.drop 6).take (bs.getD 1 0)) ∧ getN bs = bs.getD 1 0 + 10 := by unfold getF getN; rw [if_pos h, if_pos h]; exact ⟨rfl, rfl⟩
theorem getE_short {bs : List Nat} (h : bs.length < 6) : getE bs = 2 := by unfold getE; rw [if_pos h]
theorem getE_head {bs : List Nat} (h : 6 ≤ bs.length) (hg : goodL (bs.take 6) = false) : getE bs = 3 := by unfold getE; rw [if_neg (by omega), if_pos hg]
theorem getE_cut {bs : List Nat} (h : 6 ≤ bs.length) (hg : goodL (bs.take 6) = true) (hl : bs.length < bs.getD 1 0 + 10) : getE bs = 2 := by unfold getE; rw [if_neg (by omega), if_neg (by simp [hg]), if_pos hl]
theorem getE_sum {bs : List Nat} (h : 6 ≤ bs.length) (hg : goodL (bs.take 6) = true) (hl : bs.getD 1 0 + 10 ≤ bs.length) (hb : goodL ((bs.drop 6).take (bs.getD 1 0 + 4)) = false) : getE bs = 3 := by
  unfold getE; rw [if_neg (by omega), if_neg (by simp [hg]), if_neg (by omega), if_pos hb]
theorem getE_fine {bs : List Nat} (h : 6 ≤ bs.length) (hg : goodL (bs.take 6) = true) (hl : bs.getD 1 0 + 10 ≤ bs.length) (hb : goodL ((bs.drop 6).take (bs.getD 1 0 + 4)) = true) : getE bs = 0 := by
  unfold getE; rw [if_neg (by omega), if_neg (by simp [hg]), if_neg (by omega), if_neg (by rw [hb]; simp)]
theorem getF_len {bs : List Nat} : (getF bs).2.length ≤ bs.length := by
  unfold getF
  split
  · simp only [List.length_take, List.length_drop]; omega
  · simp
theorem getF_byte {bs : List Nat} (hb : ∀ x ∈ bs, x < 256) : ∀ x ∈ (getF bs).2, x < 256 := by
  unfold getF
  split
  · intro x hx; exact hb x (List.mem_of_mem_drop (List.mem_of_mem_take hx))
  · intro x hx; simp at hx

/-- All frames of bytes, and why not; n: how many at most. -/
def allF : Nat → List Nat → Nat × List Fra
  | 0, _ => (0, [])
  | n + 1, bs => if bs = [] then (0, []) else if getE bs ≠ 0 then (getE bs, []) else
    let r := allF n (bs.drop (getN bs))
    if r.1 ≠ 0 then (r.1, []) else (0, getF bs :: r.2)
def allL (bs : List Nat) : Nat × List Fra := allF bs.length bs
theorem getN_pos {bs : List Nat} (h : getE bs = 0) : 10 ≤ getN bs ∧ getN bs ≤ bs.length := by
  have := get_ok h
  unfold getN
  rw [if_pos h]
  omega
theorem allF_enough : ∀ (n m : Nat) (bs : List Nat), bs.length ≤ n → bs.length ≤ m → allF n bs = allF m bs
  | 0, m, bs, h, _ => by
    have : bs = [] := List.eq_nil_of_length_eq_zero (by omega)
    subst this
    cases m <;> simp [allF]
  | n + 1, 0, bs, _, h => by
    have : bs = [] := List.eq_nil_of_length_eq_zero (by omega)
    subst this
    simp [allF]
  | n + 1, m + 1, bs, h1, h2 => by
    simp only [allF]
    by_cases hb : bs = []
    · simp [hb]
    · by_cases he : getE bs = 0
      · have hp := getN_pos he
        have hl : (bs.drop (getN bs)).length ≤ bs.length - 10 := by rw [List.length_drop]; omega
        rw [allF_enough n m _ (by omega) (by omega)]
      · simp [hb, he]
theorem allL_nil : allL [] = (0, []) := rfl
theorem allL_bad {bs : List Nat} (h : bs ≠ []) (he : getE bs ≠ 0) : allL bs = (getE bs, []) := by
  unfold allL
  have : 0 < bs.length := List.length_pos_iff.2 h
  rw [allF_enough bs.length (bs.length + 1) bs (by omega) (by omega), allF, if_neg h, if_pos he]
theorem allL_ok {bs : List Nat} (h : bs ≠ []) (he : getE bs = 0) : allL bs = if (allL (bs.drop (getN bs))).1 ≠ 0 then ((allL (bs.drop (getN bs))).1, []) else (0, getF bs :: (allL (bs.drop (getN bs))).2) := by
  unfold allL
  rw [allF_enough bs.length (bs.length + 1) bs (by omega) (by omega), allF, if_neg h, if_neg (by simpa using he), allF_enough bs.length (bs.drop (getN bs)).length _ (by rw [List.length_drop]; omega) (by omega)]
theorem allL_put (k : Nat) (b r : List Nat) : allL (putL k b ++ r) = if (allL r).1 ≠ 0 then ((allL r).1, []) else (0, (((k : Nat) : Int), b) :: (allL r).2) := by
  have hd : (putL k b ++ r).drop (getN (putL k b ++ r)) = r := by
    rw [getN_put, ← putL_length k b, List.drop_append_of_le_length (Nat.le_refl _), List.drop_of_length_le (Nat.le_refl _), List.nil_append]
  rw [allL_ok (fun h => by have := congrArg List.length h; rw [List.length_append, putL_length] at this; simp at this) (get_put k b r), hd, getF_put]
theorem allL_put2 (k l : Nat) (b c : List Nat) : allL (putL k b ++ putL l c) = (0, [((k : Int), b), ((l : Int), c)]) := by
  have := allL_put l c []
  rw [allL_nil, List.append_nil] at this
  rw [allL_put, this]
  rfl
theorem allL_put1 (k : Nat) (b : List Nat) : allL (putL k b) = (0, [((k : Int), b)]) := by
  have := allL_put k b []
  rw [allL_nil, List.append_nil] at this
  rw [this]
  rfl
/-- What a run has: those ahead, and all of the rest. -/
def joinL (pre : List Fra) (r : Nat × List Fra) : Nat × List Fra := if r.1 ≠ 0 then (r.1, []) else (0, pre ++ r.2)
theorem joinL_nil (bs : List Nat) : joinL [] (allL bs) = allL bs := by
  unfold joinL
  by_cases h : (allL bs).1 = 0
  · rw [if_neg (by simpa using h)]
    cases h2 : allL bs with
    | mk a b => rw [h2] at h; simp at h; simp [h]
  · rw [if_pos h]
    by_cases hb : bs = []
    · subst hb; simp [allL_nil] at h
    · by_cases he : getE bs = 0
      · rw [allL_ok hb he] at h ⊢
        split
        · rfl
        · rename_i h2; rw [if_neg h2] at h; simp at h
      · rw [allL_bad hb he]
theorem joinL_bad {pre : List Fra} {bs : List Nat} (h : bs ≠ []) (he : getE bs ≠ 0) : joinL pre (allL bs) = (getE bs, []) := by rw [allL_bad h he]; simp [joinL, he]
theorem joinL_step {pre : List Fra} {bs : List Nat} (h : bs ≠ []) (he : getE bs = 0) : joinL pre (allL bs) = joinL (pre ++ [getF bs]) (allL (bs.drop (getN bs))) := by
  rw [allL_ok h he]
  unfold joinL
  by_cases h2 : (allL (bs.drop (getN bs))).1 = 0
  · simp [h2]
  · simp [h2]
theorem joinL_end (pre : List Fra) : joinL pre (allL []) = (0, pre) := by simp [joinL, allL_nil]
theorem putL_at {k j : Nat} {bs : List Nat} (hj : j < bs.length) : (putL k bs).getD (6 + j) 0 = bs.getD j 0 := by
  have h := putL_drop6 k bs []
  rw [List.append_nil, List.append_nil] at h
  have : (putL k bs).getD (6 + j) 0 = ((putL k bs).drop 6).getD j 0 := by simp [List.getD_eq_getElem?_getD, List.getElem?_drop]
  rw [this, h, sealL]
  simp [List.getD_eq_getElem?_getD, List.getElem?_append_left hj]
theorem get_back {bs : List Nat} (hb : ∀ x ∈ bs, x < 256) (h : getE bs = 0) : ∃ k0 : Nat, k0 < 256 ∧ (getF bs).1 = (k0 : Int) ∧ (getF bs).2.length < 256 ∧ getN bs = (getF bs).2.length + 10 ∧ putL k0 (getF bs).2 = bs.take (getN bs) ∧ getN bs ≤ bs.length := by
  obtain ⟨hF, hN⟩ := get_fine h
  obtain ⟨h6, _, hl, _⟩ := get_ok h
  have hlt : ∀ j, j < bs.length → bs.getD j 0 < 256 := fun j hj => by
    have : bs.getD j 0 = bs[j] := by simp [hj]
    rw [this]; exact hb _ (List.getElem_mem hj)
  have h1 := hlt 1 (by omega)
  have hlen : ((bs.drop 6).take (bs.getD 1 0)).length = bs.getD 1 0 := by rw [List.length_take, List.length_drop]; omega
  refine ⟨bs.getD 0 0, hlt 0 (by omega), by rw [hF], by rw [hF]; simp only; omega, by rw [hF, hN]; simp only; omega, by rw [hF, hN]; exact put_get h, by omega⟩
end Go.Proofs.YthhkkiegfcofjaaDoor
