/- Frames' bytes, one behind the other, and what they are read as. No program. No condition. -/
import Derived.Test.YthhkkiegfcofjaaDoorFrPlain
namespace Go.Proofs.YthhkkiegfcofjaaDoor

/-- Frames' bytes, one behind the other. -/
def catL : List Fra → List Nat
  | [] => []
  | f :: l => putL f.1.toNat f.2 ++ catL l
def Fit (f : Fra) : Prop := 0 ≤ f.1 ∧ f.1 ≤ 255 ∧ f.2.length ≤ 255 ∧ ∀ x ∈ f.2, x < 256
theorem catL_append : ∀ (a b : List Fra), catL (a ++ b) = catL a ++ catL b
  | [], _ => rfl
  | f :: a, b => by simp only [List.cons_append, catL]; rw [catL_append a b, List.append_assoc]
theorem catL_len : ∀ (l : List Fra), (∀ f ∈ l, Fit f) → (catL l).length ≤ 265 * l.length
  | [], _ => by simp [catL]
  | f :: l, h => by
    have h1 := (h f (by simp)).2.2.1
    have h2 := catL_len l fun g hg => h g (by simp [hg])
    simp only [catL, List.length_append, putL_length, List.length_cons]
    omega
theorem catL_byte : ∀ (l : List Fra), (∀ f ∈ l, Fit f) → ∀ x ∈ catL l, x < 256
  | [], _ => by simp [catL]
  | f :: l, h => by
    have h1 := h f (by simp)
    have h2 := catL_byte l fun g hg => h g (by simp [hg])
    intro x hx
    rcases List.mem_append.1 hx with h' | h'
    · exact putL_byte (by have := h1.1; have := h1.2.1; omega) (by have := h1.2.2.1; omega) h1.2.2.2 x h'
    · exact h2 x h'
theorem allL_cat : ∀ (l : List Fra), (∀ f ∈ l, Fit f) → allL (catL l) = (0, l)
  | [], _ => rfl
  | f :: l, h => by
    have h1 := h f (by simp)
    simp only [catL]
    rw [allL_put, allL_cat l fun g hg => h g (by simp [hg])]
    have : ((f.1.toNat : Nat) : Int) = f.1 := Int.toNat_of_nonneg h1.1
    rw [this]
    simp
end Go.Proofs.YthhkkiegfcofjaaDoor
