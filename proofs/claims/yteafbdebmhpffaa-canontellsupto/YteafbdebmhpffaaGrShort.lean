/- Graphs whose texts are short, as the second form's bulk gives it. No condition. -/
import Derived.Test.YteafbdebmhpffaaGrTame
import Derived.Test.YteafbdebmhpffaaGrFew
import Derived.Test.YteafbdebmhpffaaScRef1
namespace Go.Proofs.Yteafbdebmhpffaa
open Go.RowKit

/-- Texts that are short. -/
def shortG (g : Gr) : Prop := (∀ t ∈ g.1, t.1.length ≤ 1048576 ∧ ∀ f ∈ t.2, f.1.length ≤ 1048576 ∧ True ∧ f.2.2.length ≤ 1048576) ∧ (∀ o ∈ g.2.1, True ∧ True ∧ ∀ v ∈ o.2.2, True ∧ v.2.1.length ≤ 1048576 ∧ True) ∧ ∀ n ∈ g.2.2, True
theorem short_tame {g : Gr} (hf : fewG g = true) (h : shortG g) : tameG g ∧ tameS g.1 := by
  obtain ⟨h1, h2, -⟩ := h
  simp only [fewG, fewS, Bool.and_eq_true, decide_eq_true_eq, List.all_eq_true] at hf
  obtain ⟨⟨⟨⟨f1, f2⟩, f3⟩, f4⟩, f5⟩ := hf
  refine ⟨⟨⟨by omega, fun t ht => ?_⟩, ⟨by omega, fun o ho => ?_⟩, by omega⟩, fun t ht => ⟨(h1 t ht).1, fun f hf => ((h1 t ht).2 f hf).1⟩⟩
  · obtain ⟨a, b⟩ := h1 t ht
    have := f1 t ht
    refine ⟨by omega, by omega, fun f hf => ?_⟩
    obtain ⟨c, -, d⟩ := b f hf
    exact ⟨by omega, by omega⟩
  · obtain ⟨-, -, a⟩ := h2 o ho
    have := f5 o ho
    exact ⟨by omega, fun v hv => by have := (a v hv).2.1; omega⟩
end Go.Proofs.Yteafbdebmhpffaa
