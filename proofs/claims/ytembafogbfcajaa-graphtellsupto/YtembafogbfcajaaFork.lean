/- A region that draws its order, walked without a schedule: free operations first, by number; where several others may come up, each of them in turn. No condition. -/
import Derived.OrdersHeld
import Derived.Deep.RegionHeld
import Derived.WalkKit
namespace Go.Proofs.Ytembafogbfcajaa
open Go.RowKit

def wpFr (P : Program) (L : List Oper) (Q : Exit → Act → World → Prop) (S : World → Prop) (n : Nat) (listed : Array Bool) (a : Act) (w : World) : Prop :=
  (∀ (d : Tmp) (v : Value) c a w, Q (.panic c) (a.put (some d) v) w → Q (.panic c) a w) → wpAnyH P .any L.toArray Q S n listed a w
section
variable {P : Program} {L : List Oper} {Q : Exit → Act → World → Prop} {S : World → Prop} {o : Oper} {n : Nat} {listed : Array Bool} {a : Act} {w : World}
def frOk (L : List Oper) (listed : Array Bool) (i : Nat) : Bool := Region.noSelect L.toArray && Region.free .any L.toArray listed i && (Region.ready .any L.toArray listed).contains i
theorem fr_take (i : Nat) {v : Value} (hi : L[i]? = some o) (hok : frOk L listed i = true) (hy : YieldsIf P L.toArray S o v a) (hS : S w) (h : wpFr P L Q S n (listed.setIfInBounds i true) (a.put o.dst v) w) : wpFr P L Q S (n + 1) listed a w := by
  intro hQ
  simp only [frOk, Bool.and_eq_true] at hok
  exact wpAnyH_take (i := i) (oi := o) (v := v) (by simpa using hi) hok.1.1 hok.1.2 hok.2 (fun c a w hq => by
    cases hd : o.dst with
    | none => rw [hd] at hq; exact hq
    | some d => rw [hd] at hq; exact hQ d v c a w hq) hy hS (h hQ)
theorem fr_yes (i : Nat) {v : Value} (hi : L[i]? = some o) (hok : frOk L listed i = true) (hw : Region.wanted o (yielded L.toArray a.tmps) = true) (hv : ∀ W, S W → (execOp a.eval o).run P W = .ok (.value v) W) (hS : S w)
    (h : wpFr P L Q S n (listed.setIfInBounds i true) (a.put o.dst v) w) : wpFr P L Q S (n + 1) listed a w := fr_take i hi hok (.inl ⟨hw, hv⟩) hS h
theorem fr_op (rs : List Nat) (hr : Region.ready .any L.toArray listed = rs) (hne : rs ≠ [])
    (h : ∀ j ∈ rs, ∃ o, L[j]? = some o ∧ Region.wanted o (yielded L.toArray a.tmps) = true ∧ ∀ K : Act → World → Prop, Hid (∀ a' w', S w' → wpFr P L Q S n (listed.setIfInBounds j true) a' w' → K a' w') → o.wp P a w K Q) : wpFr P L Q S (n + 1) listed a w := by
  intro hQ
  refine wpAnyH_all hr hne fun j hj => ?_
  obtain ⟨o, ho, hw, hk⟩ := h j hj
  unfold wpOp
  simp only [List.getElem?_toArray, ho, hw, if_true]
  exact .inl (hk _ (fun a' w' hS h' => ⟨hS, h' hQ⟩))
theorem fr_done (hr : Region.ready .any L.toArray listed = []) (h : Q .normal a w) : wpFr P L Q S n listed a w := fun _ => wpAnyH_done hr h _
theorem fr_start {id : Nat} (S : World → Prop) (k : Nat) (hm : P.follows .mixedOrders = true) (hl : L.length = k) (hQ : ∀ (d : Tmp) (v : Value) c a w, Q (.panic c) (a.put (some d) v) w → Q (.panic c) a w) (hS : S w.drew)
    (h : S w.drew → wpFr P L Q S k (Array.replicate k false) a w.drew) : (Code.region id L.toArray true).wp P Q a w := by
  refine wp_region_held_drew (S := S) hm hS fun hS => ?_
  have := h hS hQ
  rw [← hl] at this
  simpa using this
end
end Go.Proofs.Ytembafogbfcajaa
