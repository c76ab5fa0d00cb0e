/- A region that draws its order, walked once, along a schedule: whatever yields its value in every world that meets S is taken first; what changes the world (a call) comes when it alone may come up; S may grow behind it. No condition. -/
import Derived.OrdersHeld
import Derived.Deep.RegionHeld
import Derived.WalkKit
namespace Go.Proofs.Ytembafogbfcajaa
open Go.RowKit

/-- Is the schedule one of the region's? (i, true): number i may come up, and is free: it can be taken first. (i, false): number i alone may come up. -/
def schOk (L : List Oper) : List (Nat × Bool) → Array Bool → Bool
  | [], listed => (Region.ready .any L.toArray listed).isEmpty
  | (i, true) :: t, listed => Region.noSelect L.toArray && Region.free .any L.toArray listed i && (Region.ready .any L.toArray listed).contains i && schOk L t (listed.setIfInBounds i true)
  | (i, false) :: t, listed => (Region.ready .any L.toArray listed == [i]) && schOk L t (listed.setIfInBounds i true)

def wpSch (P : Program) (L : List Oper) (Q : Exit → Act → World → Prop) (S : World → Prop) (todo : List (Nat × Bool)) (listed : Array Bool) (a : Act) (w : World) : Prop :=
  schOk L todo listed = true → (∀ (d : Tmp) (v : Value) c a w, Q (.panic c) (a.put (some d) v) w → Q (.panic c) a w) → wpAnyH P .any L.toArray Q S todo.length listed a w

section
variable {P : Program} {L : List Oper} {Q : Exit → Act → World → Prop} {S S' : World → Prop} {i : Nat} {o : Oper} {todo : List (Nat × Bool)} {listed : Array Bool} {a : Act} {w : World}

theorem sch_take {v : Value} (hi : L[i]? = some o) (hy : YieldsIf P L.toArray S o v a) (hS : S w) (h : wpSch P L Q S todo (listed.setIfInBounds i true) (a.put o.dst v) w) :
    wpSch P L Q S ((i, true) :: todo) listed a w := by
  intro hok hQ
  simp only [schOk, Bool.and_eq_true] at hok
  obtain ⟨⟨⟨hs, hf⟩, hr⟩, hok⟩ := hok
  exact wpAnyH_take (i := i) (oi := o) (v := v) (by simpa using hi) hs hf hr (fun c a w hq => by
    cases hd : o.dst with
    | none => rw [hd] at hq; exact hq
    | some d => rw [hd] at hq; exact hQ d v c a w hq) hy hS (h hok hQ)
theorem sch_yes {v : Value} (hi : L[i]? = some o) (hw : Region.wanted o (yielded L.toArray a.tmps) = true) (hv : ∀ W, S W → (execOp a.eval o).run P W = .ok (.value v) W) (hS : S w)
    (h : wpSch P L Q S todo (listed.setIfInBounds i true) (a.put o.dst v) w) : wpSch P L Q S ((i, true) :: todo) listed a w :=
  sch_take hi (.inl ⟨hw, hv⟩) hS h
theorem sch_no (hi : L[i]? = some o) (hw : Region.wanted o (yielded L.toArray a.tmps) = false) (hS : S w)
    (h : wpSch P L Q S todo (listed.setIfInBounds i true) (a.put o.dst undef) w) : wpSch P L Q S ((i, true) :: todo) listed a w :=
  sch_take hi (.inr ⟨hw, rfl⟩) hS h
theorem sch_call (hi : L[i]? = some o) (hw : Region.wanted o (yielded L.toArray a.tmps) = true)
    (h : ∀ K : Act → World → Prop, Hid (∀ a' w', S w' → wpSch P L Q S todo (listed.setIfInBounds i true) a' w' → K a' w') → o.wp P a w K Q) : wpSch P L Q S ((i, false) :: todo) listed a w := by
  intro hok hQ
  simp only [schOk, Bool.and_eq_true, beq_iff_eq] at hok
  obtain ⟨hr, hok⟩ := hok
  refine wpAnyH_all hr (by simp) fun j hj => ?_
  obtain rfl : j = i := by simpa using hj
  unfold wpOp
  simp only [List.getElem?_toArray, hi, hw, if_true]
  exact .inl (h _ (fun a' w' hS h' => ⟨hS, h' hok hQ⟩))
theorem sch_call_no (hi : L[i]? = some o) (hw : Region.wanted o (yielded L.toArray a.tmps) = false) (hS : S w)
    (h : wpSch P L Q S todo (listed.setIfInBounds i true) (a.put o.dst undef) w) : wpSch P L Q S ((i, false) :: todo) listed a w := by
  intro hok hQ
  simp only [schOk, Bool.and_eq_true, beq_iff_eq] at hok
  obtain ⟨hr, hok⟩ := hok
  refine wpAnyH_all hr (by simp) fun j hj => ?_
  obtain rfl : j = i := by simpa using hj
  unfold wpOp
  simp only [List.getElem?_toArray, hi, hw]
  exact ⟨hS, h hok hQ⟩
theorem sch_done (h : Q .normal a w) : wpSch P L Q S [] listed a w := by
  intro hok _
  have hr : Region.ready .any L.toArray listed = [] := by simpa [schOk] using hok
  exact wpAnyH_done hr h _
theorem wpAnyH_more (h : ∀ W, S' W → S W) : ∀ (fuel : Nat) (listed : Array Bool) (a : Act) (w : World), wpAnyH P .any L.toArray Q S' fuel listed a w → wpAnyH P .any L.toArray Q S fuel listed a w
  | 0, _, _, _, hh => hh
  | fuel + 1, _, _, _, hh => ⟨hh.1, fun i hi => wpOp_mono (fun a' w' h' => ⟨h w' h'.1, wpAnyH_more h fuel _ a' w' h'.2⟩) (hh.2 i hi)⟩
theorem sch_more (h : ∀ W, S' W → S W) (hh : wpSch P L Q S' todo listed a w) : wpSch P L Q S todo listed a w := fun hok hQ => wpAnyH_more h _ _ _ _ (hh hok hQ)
theorem sch_start {id : Nat} (todo : List (Nat × Bool)) (S : World → Prop) (hm : P.follows .mixedOrders = true) (hl : todo.length = L.length) (hok : schOk L todo (Array.replicate L.length false) = true)
    (hQ : ∀ (d : Tmp) (v : Value) c a w, Q (.panic c) (a.put (some d) v) w → Q (.panic c) a w) (hS : S w.drew)
    (h : S w.drew → wpSch P L Q S todo (Array.replicate L.length false) a w.drew) : (Code.region id L.toArray true).wp P Q a w := by
  refine wp_region_held_drew (S := S) hm hS fun hS => ?_
  have := h hS hok hQ
  rw [hl] at this
  simpa using this
end
end Go.Proofs.Ytembafogbfcajaa
