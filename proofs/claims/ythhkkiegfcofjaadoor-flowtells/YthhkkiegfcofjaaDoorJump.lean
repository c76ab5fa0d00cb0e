/- A scope whose label stands behind one piece, and to which the run jumps back: what holds at the label, each time, and a measure. Over any program. No condition. -/
import Derived.Test.YthhkkiegfcofjaaDoorWords
import Derived.WalkMore
import Derived.ScopeJumps
namespace Go.Proofs.YthhkkiegfcofjaaDoor
theorem wp_scope_after {P : Program} {c X : Code} {a : Act} {w : World} {Q : Exit → Act → World → Prop} (l : Nat) (J : Act → World → Prop) (μ : Act → World → Nat) (hf : findLabel (c.seq ((Code.label l).seq X)) l = some (Code.skip.seq X))
    (first : c.wp P (Exit.then J (fun _ _ _ => False)) a w)
    (pass : ∀ a w, J a w → X.wp P (Exit.jump l (fun a' w' => J a' w' ∧ μ a' w' < μ a w) Q) a w) : (Code.scope (c.seq ((Code.label l).seq X))).wp P Q a w := by
  refine wp_scope_jumps l J μ hf ?_ fun a w hJ => wp_seq (wp_skip (pass a w hJ))
  have hX : ∀ a w, J a w → X.wp P (Exit.jump l J Q) a w := fun a w hJ => wp_mono (pass a w hJ) fun e a' w' h => by
    cases e with
    | goto l' => exact ⟨h.1, h.2.1⟩
    | _ => exact h
  refine wp_seq (wp_mono first fun e a' w' h => ?_)
  cases e with
  | normal => exact wp_seq (wp_label (hX a' w' h))
  | _ => exact h.elim
end Go.Proofs.YthhkkiegfcofjaaDoor
