/- The texts Sched, Fork, SchedL, ForkL in one; what each proves, and its conditions, stands before it. -/
import Derived.OrdersHeld
import Derived.Deep.RegionHeld
import Derived.WalkKit
/- A region that draws its order, walked once, along a schedule: whatever yields its value in every world that meets S is taken first; what changes the world (a call) comes when it alone may come up; S may grow behind it. No condition. -/
namespace Go.Proofs.Yteafbdebmhpffaa
open Go.RowKit

/-- Is the schedule one of the region's? (i, true): number i may come up, and is free: it can be taken first. (i, false): number i alone may come up. -/
def schOk (L : List Oper) : List (Nat × Bool) → Array Bool → Bool
  | [], listed => (Region.ready .any L.toArray listed).isEmpty
  | (i, true) :: t, listed => Region.noSelect L.toArray && Region.free .any L.toArray listed i && (Region.ready .any L.toArray listed).contains i && schOk L t (listed.setIfInBounds i true)
  | (i, false) :: t, listed => (Region.ready .any L.toArray listed == [i]) && schOk L t (listed.setIfInBounds i true)

def wpSch (P : Program) (L : List Oper) (Q : Exit → Act → World → Prop) (S : World → Prop) (todo : List (Nat × Bool)) (listed : Array Bool) (a : Act) (w : World) : Prop :=
  schOk L todo listed = true → (∀ (d : Tmp) (v : Value) c a w, Q (.panic c) (a.put (some d) v) w → Q (.panic c) a w) → wpAnyH P .any L.toArray Q S todo.length listed a w

section
variable {P : Program} {L : List Oper} {Q : Exit → Act → World → Prop} {S S' : World → Prop} {i : Nat} {o : Oper} {todo : List (Nat × Bool)} {listed : Array Bool} {a : Act} {w : World}

theorem sch_take {v : Value} (hi : L[i]? = some o) (hy : YieldsIf P L.toArray S o v a) (hS : S w) (h : wpSch P L Q S todo (listed.setIfInBounds i true) (a.put o.dst v) w) :
    wpSch P L Q S ((i, true) :: todo) listed a w := by
  intro hok hQ
  simp only [schOk, Bool.and_eq_true] at hok
  obtain ⟨⟨⟨hs, hf⟩, hr⟩, hok⟩ := hok
  exact wpAnyH_take (i := i) (oi := o) (v := v) (by simpa using hi) hs hf hr (fun c a w hq => by
    cases hd : o.dst with
    | none => rw [hd] at hq; exact hq
    | some d => rw [hd] at hq; exact hQ d v c a w hq) hy hS (h hok hQ)
theorem sch_yes {v : Value} (hi : L[i]? = some o) (hw : Region.wanted o (yielded L.toArray a.tmps) = true) (hv : ∀ W, S W → (execOp a.eval o).run P W = .ok (.value v) W) (hS : S w)
    (h : wpSch P L Q S todo (listed.setIfInBounds i true) (a.put o.dst v) w) : wpSch P L Q S ((i, true) :: todo) listed a w :=
  sch_take hi (.inl ⟨hw, hv⟩) hS h
theorem sch_no (hi : L[i]? = some o) (hw : Region.wanted o (yielded L.toArray a.tmps) = false) (hS : S w)
    (h : wpSch P L Q S todo (listed.setIfInBounds i true) (a.put o.dst undef) w) : wpSch P L Q S ((i, true) :: todo) listed a w :=
  sch_take hi (.inr ⟨hw, rfl⟩) hS h
theorem sch_call (hi : L[i]? = some o) (hw : Region.wanted o (yielded L.toArray a.tmps) = true)
    (h : ∀ K : Act → World → Prop, Hid (∀ a' w', S w' → wpSch P L Q S todo (listed.setIfInBounds i true) a' w' → K a' w') → o.wp P a w K Q) : wpSch P L Q S ((i, false) :: todo) listed a w := by
  intro hok hQ
  simp only [schOk, Bool.and_eq_true, beq_iff_eq] at hok
  obtain ⟨hr, hok⟩ := hok
  refine wpAnyH_all hr (by simp) fun j hj => ?_
  obtain rfl : j = i := by simpa using hj
  unfold wpOp
  simp only [List.getElem?_toArray, hi, hw, if_true]
  exact .inl (h _ (fun a' w' hS h' => ⟨hS, h' hok hQ⟩))
theorem sch_call_no (hi : L[i]? = some o) (hw : Region.wanted o (yielded L.toArray a.tmps) = false) (hS : S w)
    (h : wpSch P L Q S todo (listed.setIfInBounds i true) (a.put o.dst undef) w) : wpSch P L Q S ((i, false) :: todo) listed a w := by
  intro hok hQ
  simp only [schOk, Bool.and_eq_true, beq_iff_eq] at hok
  obtain ⟨hr, hok⟩ := hok
  refine wpAnyH_all hr (by simp) fun j hj => ?_
  obtain rfl : j = i := by simpa using hj
  unfold wpOp
  simp only [List.getElem?_toArray, hi, hw]
  exact ⟨hS, h hok hQ⟩
theorem sch_done (h : Q .normal a w) : wpSch P L Q S [] listed a w := by
  intro hok _
  have hr : Region.ready .any L.toArray listed = [] := by simpa [schOk] using hok
  exact wpAnyH_done hr h _
theorem wpAnyH_more (h : ∀ W, S' W → S W) : ∀ (fuel : Nat) (listed : Array Bool) (a : Act) (w : World), wpAnyH P .any L.toArray Q S' fuel listed a w → wpAnyH P .any L.toArray Q S fuel listed a w
  | 0, _, _, _, hh => hh
  | fuel + 1, _, _, _, hh => ⟨hh.1, fun i hi => wpOp_mono (fun a' w' h' => ⟨h w' h'.1, wpAnyH_more h fuel _ a' w' h'.2⟩) (hh.2 i hi)⟩
theorem sch_more (h : ∀ W, S' W → S W) (hh : wpSch P L Q S' todo listed a w) : wpSch P L Q S todo listed a w := fun hok hQ => wpAnyH_more h _ _ _ _ (hh hok hQ)
theorem sch_start {id : Nat} (todo : List (Nat × Bool)) (S : World → Prop) (hm : P.follows .mixedOrders = true) (hl : todo.length = L.length) (hok : schOk L todo (Array.replicate L.length false) = true)
    (hQ : ∀ (d : Tmp) (v : Value) c a w, Q (.panic c) (a.put (some d) v) w → Q (.panic c) a w) (hS : S w.drew)
    (h : S w.drew → wpSch P L Q S todo (Array.replicate L.length false) a w.drew) : (Code.region id L.toArray true).wp P Q a w := by
  refine wp_region_held_drew (S := S) hm hS fun hS => ?_
  have := h hS hok hQ
  rw [hl] at this
  simpa using this
end
end Go.Proofs.Yteafbdebmhpffaa

/- A region that draws its order, walked without a schedule: free operations first, by number; where several others may come up, each of them in turn. No condition. -/
namespace Go.Proofs.Yteafbdebmhpffaa
open Go.RowKit

def wpFr (P : Program) (L : List Oper) (Q : Exit → Act → World → Prop) (S : World → Prop) (n : Nat) (listed : Array Bool) (a : Act) (w : World) : Prop :=
  (∀ (d : Tmp) (v : Value) c a w, Q (.panic c) (a.put (some d) v) w → Q (.panic c) a w) → wpAnyH P .any L.toArray Q S n listed a w
section
variable {P : Program} {L : List Oper} {Q : Exit → Act → World → Prop} {S : World → Prop} {o : Oper} {n : Nat} {listed : Array Bool} {a : Act} {w : World}
def frOk (L : List Oper) (listed : Array Bool) (i : Nat) : Bool := Region.noSelect L.toArray && Region.free .any L.toArray listed i && (Region.ready .any L.toArray listed).contains i
theorem fr_take (i : Nat) {v : Value} (hi : L[i]? = some o) (hok : frOk L listed i = true) (hy : YieldsIf P L.toArray S o v a) (hS : S w) (h : wpFr P L Q S n (listed.setIfInBounds i true) (a.put o.dst v) w) : wpFr P L Q S (n + 1) listed a w := by
  intro hQ
  simp only [frOk, Bool.and_eq_true] at hok
  exact wpAnyH_take (i := i) (oi := o) (v := v) (by simpa using hi) hok.1.1 hok.1.2 hok.2 (fun c a w hq => by
    cases hd : o.dst with
    | none => rw [hd] at hq; exact hq
    | some d => rw [hd] at hq; exact hQ d v c a w hq) hy hS (h hQ)
theorem fr_yes (i : Nat) {v : Value} (hi : L[i]? = some o) (hok : frOk L listed i = true) (hw : Region.wanted o (yielded L.toArray a.tmps) = true) (hv : ∀ W, S W → (execOp a.eval o).run P W = .ok (.value v) W) (hS : S w)
    (h : wpFr P L Q S n (listed.setIfInBounds i true) (a.put o.dst v) w) : wpFr P L Q S (n + 1) listed a w := fr_take i hi hok (.inl ⟨hw, hv⟩) hS h
theorem fr_op (rs : List Nat) (hr : Region.ready .any L.toArray listed = rs) (hne : rs ≠ [])
    (h : ∀ j ∈ rs, ∃ o, L[j]? = some o ∧ Region.wanted o (yielded L.toArray a.tmps) = true ∧ ∀ K : Act → World → Prop, Hid (∀ a' w', S w' → wpFr P L Q S n (listed.setIfInBounds j true) a' w' → K a' w') → o.wp P a w K Q) : wpFr P L Q S (n + 1) listed a w := by
  intro hQ
  refine wpAnyH_all hr hne fun j hj => ?_
  obtain ⟨o, ho, hw, hk⟩ := h j hj
  unfold wpOp
  simp only [List.getElem?_toArray, ho, hw, if_true]
  exact .inl (hk _ (fun a' w' hS h' => ⟨hS, h' hQ⟩))
theorem fr_done (hr : Region.ready .any L.toArray listed = []) (h : Q .normal a w) : wpFr P L Q S n listed a w := fun _ => wpAnyH_done hr h _
theorem fr_start {id : Nat} (S : World → Prop) (k : Nat) (hm : P.follows .mixedOrders = true) (hl : L.length = k) (hQ : ∀ (d : Tmp) (v : Value) c a w, Q (.panic c) (a.put (some d) v) w → Q (.panic c) a w) (hS : S w.drew)
    (h : S w.drew → wpFr P L Q S k (Array.replicate k false) a w.drew) : (Code.region id L.toArray true).wp P Q a w := by
  refine wp_region_held_drew (S := S) hm hS fun hS => ?_
  have := h hS hQ
  rw [← hl] at this
  simpa using this
end
end Go.Proofs.Yteafbdebmhpffaa

/- As Sched, for a region whose last operation, which in every order waits for all that is taken ahead, may break what the free operations read ('x.f = append(x.f, g(y))'). No condition. -/
namespace Go.Proofs.Yteafbdebmhpffaa
open Go.RowKit

section
variable {P : Program} {ops : Array Oper} {Q : Exit → Act → World → Prop} {md : Region.Mode} {S : World → Prop} {l : Nat}

/-- In whatever order the rest comes up: behind each operation but number l the condition S holds. -/
def wpUpto (P : Program) (md : Region.Mode) (ops : Array Oper) (Q : Exit → Act → World → Prop) (S : World → Prop) (l : Nat) : Nat → Array Bool → Act → World → Prop
  | 0, listed, a, w => Region.ready md ops listed = [] ∧ Q .normal a w
  | n + 1, listed, a, w => (Region.ready md ops listed = [] → Q .normal a w) ∧
    ∀ j ∈ Region.ready md ops listed, wpOp P ops Q j (fun b u => (j ≠ l → S u) ∧ wpUpto P md ops Q S l n (listed.setIfInBounds j true) b u) a w
theorem wpAny_of_upto : ∀ (n : Nat) (listed : Array Bool) (a : Act) (w : World), wpUpto P md ops Q S l n listed a w → wpAny P md ops Q n listed a w
  | 0, _, _, _, h => h
  | n + 1, _, _, _, h => ⟨h.1, fun j hj => wpOp_mono (fun b u hu => wpAny_of_upto n _ b u hu.2) (h.2 j hj)⟩

/-- Number i has not come up, and number l waits for it, by way of others. -/
inductive ToLast (md : Region.Mode) (ops : Array Oper) (l : Nat) (listed : Array Bool) : Nat → Prop
  | last : listed.getD l true = false → ToLast md ops l listed l
  | step {i q : Nat} {o : Oper} {e : Edge} : listed.getD i true = false → ops[q]? = some o → e ∈ o.after → Region.binds md e = true → e.on = i → ToLast md ops l listed q → ToLast md ops l listed i
theorem not_listed {listed : Array Bool} {i : Nat} (h : listed.getD i true = false) : ¬ listed.getD i false = true := by
  intro h'
  rcases Nat.lt_or_ge i listed.size with hi | hi
  · simp [hi] at h h'; rw [h] at h'; cases h'
  · simp [Array.getElem?_eq_none hi] at h'
theorem ToLast.waits {listed : Array Bool} {i : Nat} (h : ToLast md ops l listed i) : i ≠ l → l ∉ Region.ready md ops listed := by
  induction h with
  | last _ => intro hne; exact absurd rfl hne
  | step hi hq he hb hon hto ih =>
    rename_i i q o e
    intro _ hl
    by_cases hql : q = l
    · subst hql
      obtain ⟨_, o', ho', hall⟩ := mem_ready.1 hl
      obtain rfl := Option.some.inj (hq.symm.trans ho')
      have := hall e he hb
      rw [hon] at this
      exact not_listed hi this
    · exact ih hql hl
theorem ToLast.set {listed : Array Bool} {i j : Nat} (h : ToLast md ops l listed i) (hj : j ∈ Region.ready md ops listed) : j ≠ i → ToLast md ops l (listed.setIfInBounds j true) i := by
  induction h with
  | last hl => intro hne; exact .last (by rw [getD_set_ne true hne]; exact hl)
  | step hi hq he hb hon hto ih =>
    rename_i i q o e
    intro hne
    refine .step (by rw [getD_set_ne true hne]; exact hi) hq he hb hon (ih ?_)
    rintro rfl
    obtain ⟨_, o', ho', hall⟩ := mem_ready.1 hj
    obtain rfl := Option.some.inj (hq.symm.trans ho')
    have := hall e he hb
    rw [hon] at this
    exact not_listed hi this
def toLastB (md : Region.Mode) (ops : Array Oper) (l : Nat) (listed : Array Bool) : Nat → Nat → Bool
  | 0, _ => false
  | n + 1, i => !listed.getD i true && (i == l || (List.range ops.size).any fun q => match ops[q]? with
      | some o => (o.after.any fun e => Region.binds md e && e.on == i) && toLastB md ops l listed n q
      | none => false)
theorem toLast_of {listed : Array Bool} : ∀ (n i : Nat), toLastB md ops l listed n i = true → ToLast md ops l listed i
  | 0, _, h => by cases h
  | n + 1, i, h => by
    simp only [toLastB, Bool.and_eq_true, Bool.or_eq_true, Bool.not_eq_true'] at h
    obtain ⟨hi, h⟩ := h
    rcases h with h | h
    · obtain rfl : i = l := by simpa using h
      exact .last hi
    · rw [List.any_eq_true] at h
      obtain ⟨q, _, hq⟩ := h
      cases ho : ops[q]? with
      | none => rw [ho] at hq; cases hq
      | some o =>
        rw [ho] at hq
        simp only [Bool.and_eq_true, Array.any_eq_true'] at hq
        obtain ⟨⟨e, he, hb⟩, hn⟩ := hq
        simp only [beq_iff_eq] at hb
        exact .step hi ho he hb.1 hb.2 (toLast_of n q hn)

/-- What yields its value wherever S holds may come first. -/
theorem wpUpto_first {i : Nat} {oi : Oper} {v : Value} (hi : ops[i]? = some oi) (hil : i ≠ l) (hsel : Region.noSelect ops = true) (hQ : ∀ c a w, Q (.panic c) (a.put oi.dst v) w → Q (.panic c) a w) :
    ∀ (n : Nat) (listed : Array Bool) (a : Act) (w : World), (∀ j oj, ops[j]? = some oj → j ≠ i → listed.getD j true = false → (∀ e ∈ oj.after, Region.binds md e = true → e.on ≠ i) → oi.apart ops oj = true) →
      i ∈ Region.ready md ops listed → ToLast md ops l listed i → YieldsIf P ops S oi v a → S w → wpUpto P md ops Q S l n (listed.setIfInBounds i true) (a.put oi.dst v) w → wpUpto P md ops Q S l (n + 1) listed a w
  | n, listed, a, w, hfree, hr, hto, hy, hS, H => by
    refine ⟨fun h => (by rw [h] at hr; cases hr), fun j hj => ?_⟩
    by_cases hji : j = i
    · subst hji
      exact hy.wpOp hi hS ⟨fun _ => hS, H⟩
    · have hjl : j ≠ l := fun e => hto.waits hil (e ▸ hj)
      match n, H with
      | 0, H =>
        have := ready_mono hj hji
        rw [H.1] at this
        cases this
      | n + 1, H =>
        obtain ⟨hun, oj, hoj, hall⟩ := mem_ready.1 hj
        have hno : ∀ e ∈ oj.after, Region.binds md e = true → e.on ≠ i := fun e he hb heq => by
          have := hall e he hb
          rw [heq] at this
          exact not_listed (mem_ready.1 hr).1 this
        have h2 := wpOp_putIf hoj (hfree j oj hoj hji hun hno) (fun cs b => Region.noSelect_spec hsel i oi cs b hi) (fun cs b => Region.noSelect_spec hsel j oj cs b hoj) hQ hy (H.2 j (ready_mono hj hji))
        refine wpOp_mono (fun b u hu => ⟨fun _ => hu.2.1 hjl, ?_⟩) h2
        refine wpUpto_first hi hil hsel hQ n (listed.setIfInBounds j true) b u (fun k ok hk hki hku hkn => hfree k ok hk hki ?_ hkn) (ready_mono hr (Ne.symm hji)) (hto.set hj hji) hu.1 (hu.2.1 hjl) ?_
        · by_cases hjk : j = k
          · subst hjk; exact hun
          · rw [getD_set_ne true hjk] at hku; exact hku
        · rw [Array.setIfInBounds_comm _ _ hji]
          exact hu.2.2
end

def sclOk (L : List Oper) (l : Nat) : List (Nat × Bool) → Array Bool → Bool
  | [], listed => (Region.ready .any L.toArray listed).isEmpty
  | (i, true) :: t, listed => i != l && toLastB .any L.toArray l listed L.length i && Region.noSelect L.toArray && Region.free .any L.toArray listed i && (Region.ready .any L.toArray listed).contains i && sclOk L l t (listed.setIfInBounds i true)
  | (i, false) :: t, listed => (Region.ready .any L.toArray listed == [i]) && sclOk L l t (listed.setIfInBounds i true)
def wpScl (P : Program) (L : List Oper) (l : Nat) (Q : Exit → Act → World → Prop) (S : World → Prop) (todo : List (Nat × Bool)) (listed : Array Bool) (a : Act) (w : World) : Prop :=
  sclOk L l todo listed = true → (∀ (d : Tmp) (v : Value) c a w, Q (.panic c) (a.put (some d) v) w → Q (.panic c) a w) → wpUpto P .any L.toArray Q S l todo.length listed a w
section
variable {P : Program} {L : List Oper} {Q : Exit → Act → World → Prop} {S S' : World → Prop} {i l : Nat} {o : Oper} {todo : List (Nat × Bool)} {listed : Array Bool} {a : Act} {w : World}
theorem scl_take {v : Value} (hi : L[i]? = some o) (hy : YieldsIf P L.toArray S o v a) (hS : S w) (h : wpScl P L l Q S todo (listed.setIfInBounds i true) (a.put o.dst v) w) :
    wpScl P L l Q S ((i, true) :: todo) listed a w := by
  intro hok hQ
  simp only [sclOk, Bool.and_eq_true, bne_iff_ne] at hok
  obtain ⟨⟨⟨⟨⟨hil, hto⟩, hs⟩, hf⟩, hr⟩, hok⟩ := hok
  have hi' : L.toArray[i]? = some o := by simpa using hi
  exact wpUpto_first hi' hil hs (fun c a w hq => by
    cases hd : o.dst with
    | none => rw [hd] at hq; exact hq
    | some d => rw [hd] at hq; exact hQ d v c a w hq) _ listed a w (Region.free_spec hi' hf) (by simpa using hr) (toLast_of _ _ hto) hy hS (h hok hQ)
theorem scl_yes {v : Value} (hi : L[i]? = some o) (hw : Region.wanted o (yielded L.toArray a.tmps) = true) (hv : ∀ W, S W → (execOp a.eval o).run P W = .ok (.value v) W) (hS : S w)
    (h : wpScl P L l Q S todo (listed.setIfInBounds i true) (a.put o.dst v) w) : wpScl P L l Q S ((i, true) :: todo) listed a w := scl_take hi (.inl ⟨hw, hv⟩) hS h
theorem scl_no (hi : L[i]? = some o) (hw : Region.wanted o (yielded L.toArray a.tmps) = false) (hS : S w)
    (h : wpScl P L l Q S todo (listed.setIfInBounds i true) (a.put o.dst undef) w) : wpScl P L l Q S ((i, true) :: todo) listed a w := scl_take hi (.inr ⟨hw, rfl⟩) hS h
theorem scl_call (hi : L[i]? = some o) (hw : Region.wanted o (yielded L.toArray a.tmps) = true)
    (h : ∀ K : Act → World → Prop, Hid (∀ a' w', (i ≠ l → S w') → wpScl P L l Q S todo (listed.setIfInBounds i true) a' w' → K a' w') → o.wp P a w K Q) : wpScl P L l Q S ((i, false) :: todo) listed a w := by
  intro hok hQ
  simp only [sclOk, Bool.and_eq_true, beq_iff_eq] at hok
  obtain ⟨hr, hok⟩ := hok
  refine ⟨fun h0 => (by rw [hr] at h0; cases h0), fun j hj => ?_⟩
  rw [hr] at hj
  obtain rfl : j = i := by simpa using hj
  unfold wpOp
  simp only [List.getElem?_toArray, hi, hw, if_true]
  exact .inl (h _ (fun a' w' hS h' => ⟨hS, h' hok hQ⟩))
theorem scl_done (h : Q .normal a w) : wpScl P L l Q S [] listed a w := by
  intro hok _
  have hr : Region.ready .any L.toArray listed = [] := by simpa [sclOk] using hok
  exact ⟨hr, h⟩
theorem scl_start {id : Nat} (l : Nat) (todo : List (Nat × Bool)) (S : World → Prop) (hm : P.follows .mixedOrders = true) (hl : todo.length = L.length) (hok : sclOk L l todo (Array.replicate L.length false) = true)
    (hQ : ∀ (d : Tmp) (v : Value) c a w, Q (.panic c) (a.put (some d) v) w → Q (.panic c) a w) (hS : S w.drew)
    (h : S w.drew → wpScl P L l Q S todo (Array.replicate L.length false) a w.drew) : (Code.region id L.toArray true).wp P Q a w := by
  refine wp_region_any hm (wpAny_of_upto (S := S) (l := l) _ _ _ _ ?_)
  have := h hS hok hQ
  rw [hl] at this
  simpa using this
end
end Go.Proofs.Yteafbdebmhpffaa

/- As Fork, for a region whose last operation, which in every order waits for all that is taken ahead, may break what the free operations read. No condition. -/
namespace Go.Proofs.Yteafbdebmhpffaa
open Go.RowKit

def wpFrl (P : Program) (L : List Oper) (l : Nat) (Q : Exit → Act → World → Prop) (S : World → Prop) (n : Nat) (listed : Array Bool) (a : Act) (w : World) : Prop :=
  (∀ (d : Tmp) (v : Value) c a w, Q (.panic c) (a.put (some d) v) w → Q (.panic c) a w) → wpUpto P .any L.toArray Q S l n listed a w
def frlOk (L : List Oper) (l : Nat) (listed : Array Bool) (i : Nat) : Bool := i != l && toLastB .any L.toArray l listed L.length i && Region.noSelect L.toArray && Region.free .any L.toArray listed i && (Region.ready .any L.toArray listed).contains i
section
variable {P : Program} {L : List Oper} {Q : Exit → Act → World → Prop} {S : World → Prop} {o : Oper} {l n : Nat} {listed : Array Bool} {a : Act} {w : World}
theorem frl_yes (i : Nat) {v : Value} (hi : L[i]? = some o) (hok : frlOk L l listed i = true) (hw : Region.wanted o (yielded L.toArray a.tmps) = true) (hv : ∀ W, S W → (execOp a.eval o).run P W = .ok (.value v) W) (hS : S w)
    (h : wpFrl P L l Q S n (listed.setIfInBounds i true) (a.put o.dst v) w) : wpFrl P L l Q S (n + 1) listed a w := by
  intro hQ
  simp only [frlOk, Bool.and_eq_true, bne_iff_ne] at hok
  obtain ⟨⟨⟨⟨hil, hto⟩, hs⟩, hf⟩, hr⟩ := hok
  have hi' : L.toArray[i]? = some o := by simpa using hi
  exact wpUpto_first hi' hil hs (fun c a w hq => by
    cases hd : o.dst with
    | none => rw [hd] at hq; exact hq
    | some d => rw [hd] at hq; exact hQ d v c a w hq) _ listed a w (Region.free_spec hi' hf) (by simpa using hr) (toLast_of _ _ hto) (.inl ⟨hw, hv⟩) hS (h hQ)
theorem frl_op (rs : List Nat) (hr : Region.ready .any L.toArray listed = rs) (hne : rs ≠ [])
    (h : ∀ j ∈ rs, ∃ o, L[j]? = some o ∧ Region.wanted o (yielded L.toArray a.tmps) = true ∧ ∀ K : Act → World → Prop, Hid (∀ a' w', (j ≠ l → S w') → wpFrl P L l Q S n (listed.setIfInBounds j true) a' w' → K a' w') → o.wp P a w K Q) : wpFrl P L l Q S (n + 1) listed a w := by
  intro hQ
  refine ⟨fun h0 => absurd (hr.symm.trans h0) hne, fun j hj => ?_⟩
  rw [hr] at hj
  obtain ⟨o, ho, hw, hk⟩ := h j hj
  unfold wpOp
  simp only [List.getElem?_toArray, ho, hw, if_true]
  exact .inl (hk _ (fun a' w' hS h' => ⟨hS, h' hQ⟩))
theorem frl_done (hr : Region.ready .any L.toArray listed = []) (h : Q .normal a w) : wpFrl P L l Q S 0 listed a w := fun _ => ⟨hr, h⟩
theorem frl_start {id : Nat} (l : Nat) (S : World → Prop) (k : Nat) (hm : P.follows .mixedOrders = true) (hl : L.length = k) (hQ : ∀ (d : Tmp) (v : Value) c a w, Q (.panic c) (a.put (some d) v) w → Q (.panic c) a w) (hS : S w.drew)
    (h : S w.drew → wpFrl P L l Q S k (Array.replicate k false) a w.drew) : (Code.region id L.toArray true).wp P Q a w := by
  refine wp_region_any hm (wpAny_of_upto (S := S) (l := l) _ _ _ _ ?_)
  have := h hS hQ
  rw [← hl] at this
  simpa using this
end
end Go.Proofs.Yteafbdebmhpffaa
