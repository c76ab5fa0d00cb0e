/- The frames of a beginning of two frames' bytes. And frame.Put at any frame: what comes back. No condition. -/
import Derived.Test.YthhkkiegfcofjaaDoorFrAll
namespace Go.Proofs.YthhkkiegfcofjaaDoor
open Go.RowKit

theorem getE_prefix {k j : Nat} {b : List Nat} (hj : j < b.length + 10) : getE ((putL k b).take j) = 2 := by
  have hl : ((putL k b).take j).length = j := by rw [List.length_take, putL_length]; omega
  by_cases h6 : j < 6
  · exact getE_short (by omega)
  · have h0 := putL_take6 k b []
    rw [List.append_nil] at h0
    have h1 : ((putL k b).take j).take 6 = sealL [k, b.length] := by rw [List.take_take, Nat.min_eq_left (by omega)]; exact h0
    have h2 : ((putL k b).take j).getD 1 0 = b.length := by
      have : (putL k b).getD 1 0 = b.length := rfl
      rw [List.getD_eq_getElem?_getD, List.getElem?_take, if_pos (by omega), ← List.getD_eq_getElem?_getD, this]
    exact getE_cut (by omega) (by rw [h1]; exact good_seal _) (by rw [h2]; omega)
theorem allL_prefix {k j : Nat} {b : List Nat} (h0 : 0 < j) (hj : j < b.length + 10) : allL ((putL k b).take j) = (2, []) := by
  have hl : ((putL k b).take j).length = j := by rw [List.length_take, putL_length]; omega
  have h := getE_prefix (k := k) hj
  have := allL_bad (bs := (putL k b).take j) (fun e => by rw [e] at hl; simp at hl; omega) (by omega)
  rw [this, h]
theorem allL_cut (k l : Nat) (b c : List Nat) (j : Nat) (hj : j ≤ b.length + 10 + (c.length + 10)) : allL ((putL k b ++ putL l c).take j) =
    if j = 0 then (0, []) else if j = b.length + 10 then (0, [((k : Int), b)]) else if j = b.length + 10 + (c.length + 10) then (0, [((k : Int), b), ((l : Int), c)]) else (2, []) := by
  have hp := putL_length k b
  have hq := putL_length l c
  by_cases h0 : j = 0
  · subst h0; rfl
  · rw [if_neg h0]
    by_cases h1 : j < b.length + 10
    · rw [if_neg (by omega), if_neg (by omega), List.take_append_of_le_length (by omega), allL_prefix (by omega) h1]
    · obtain ⟨m, rfl⟩ : ∃ m, j = b.length + 10 + m := ⟨j - (b.length + 10), by omega⟩
      rw [← hp, List.take_length_add_append, allL_put, hp]
      by_cases h2 : m = 0
      · subst h2
        simp [allL_nil]
      · by_cases h3 : m = c.length + 10
        · have e : allL ((putL l c).take m) = (0, [((l : Int), c)]) := by rw [List.take_of_length_le (by omega), allL_put1]
          rw [e]
          simp [h3]
        · have e : allL ((putL l c).take m) = (2, []) := allL_prefix (by omega) (by omega)
          rw [e]
          simp [h2, h3]

/-- What Put says at any frame. -/
def PutSays (k : Int) (bs : List Nat) (w' : World) (B : Option Addr) (m cap E : Nat) : Prop :=
  (0 ≤ k ∧ k ≤ 255 ∧ bs.length ≤ 255 ∧ E = 0 ∧ m = bs.length + 10 ∧ m ≤ cap ∧ Rd w' B (u8s (putL k.toNat bs))) ∨ (¬ (0 ≤ k ∧ k ≤ 255 ∧ bs.length ≤ 255) ∧ E = 1 ∧ B = none ∧ m = 0 ∧ cap = 0)
theorem put_any (k : Int) (A : Option Addr) (c : Nat) (bs : List Nat) (w : World) (hb : ∀ x ∈ bs, x < 256) (hr : Rd w A (u8s bs)) :
    Calls Tryd.prog 26 #[.agg #[.int .i64 k, .slice A bs.length c]] w fun e w' => ∃ B m cap E, e = .returned (.tuple #[.slice B m cap, .int .i64 ((E : Nat) : Int)]) ∧ PutSays k bs w' B m cap E ∧ Below w.heap.size w w' := by
  by_cases h : 0 ≤ k ∧ k ≤ 255 ∧ bs.length ≤ 255
  · obtain ⟨h0, h1, h2⟩ := h
    obtain ⟨q, rfl⟩ := Int.eq_ofNat_of_zero_le h0
    refine (put_ok q A bs.length c bs w (by omega) rfl (by omega) hb hr).mono fun e w' ⟨g, cap, he, hcap, _, _, hrd, hB⟩ => ⟨_, _, cap, 0, he, .inl ⟨h0, h1, h2, rfl, rfl, hcap, ?_⟩, hB⟩
    rw [show ((q : Int)).toNat = q by omega]
    exact hrd
  · exact (put_bad k A bs.length c w h).mono fun e w' ⟨he, hB⟩ => ⟨none, 0, 0, 1, he, .inr ⟨h, rfl, rfl, rfl, rfl⟩, hB⟩
theorem putSays_len {k : Int} {bs : List Nat} {w' : World} {B : Option Addr} {m cap E : Nat} (h : PutSays k bs w' B m cap E) : m ≤ 265 := by
  rcases h with ⟨_, _, h1, _, h2, _⟩ | ⟨_, _, _, h2, _⟩ <;> omega
end Go.Proofs.YthhkkiegfcofjaaDoor
