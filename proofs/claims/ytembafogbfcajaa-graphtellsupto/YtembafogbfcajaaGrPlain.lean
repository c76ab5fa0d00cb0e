/- Graphs, on plain data: which may be, where an object stands, what is come to. No condition. -/
import Derived.Test.YtembafogbfcajaaScPlainAll
import Derived.Test.YtembafogbfcajaaVlKind
namespace Go.Proofs.Ytembafogbfcajaa

/-- An object: its id, its type's place, its values. -/
abbrev Ob := Int × Int × List Vl
/-- A graph: its schema, its objects, its roots. -/
abbrev Gr := Sch × List Ob × List Int
instance decVl : DecidableEq Vl := inferInstance
instance decVls : DecidableEq (List Vl) := inferInstance
instance decObT : DecidableEq (Int × List Vl) := inferInstance
instance decOb : DecidableEq Ob := inferInstance
instance decObs : DecidableEq (List Ob) := inferInstance
instance decGrT : DecidableEq (List Ob × List Int) := inferInstance
instance decGr : DecidableEq Gr := fun a b => if h : a.1 = b.1 then (if k : a.2 = b.2 then isTrue (Prod.ext h k) else isFalse fun e => k (by rw [e])) else isFalse fun e => h (by rw [e])
def findG (os : List Ob) (id : Int) : Int := idxP (fun o => decide (o.1 = id)) os
/-- The type's place of the object of an id. -/
def typG (os : List Ob) (id : Int) : Int := (os.getD (findG os id).toNat (0, 0, [])).2.1
def haveG (g : Gr) (f : Fld) (v : Vl) : Bool :=
  fitsV f.2.1 v && (decide (f.2.1 ≠ 5) || decide (v.2.2 = -1) || (decide (findG g.2.1 v.2.2 ≠ -1) && decide (typG g.2.1 v.2.2 = findS g.1 f.2.2)))
/-- Two lists of one length, place by place. -/
def all2 {α β : Type} (p : α → β → Bool) : List α → List β → Bool
  | [], [] => true
  | a :: l, b :: m => p a b && all2 p l m
  | _, _ => false
def fldsG (s : Sch) (t : Int) : List Fld := (s.getD t.toNat ([], [])).2
def mayO (g : Gr) (o : Ob) : Bool := (decide (0 ≤ o.2.1) && decide (o.2.1 < (g.1.length : Int))) && all2 (haveG g) (fldsG g.1 o.2.1) o.2.2
def riseG (g : Gr) : Int → List Ob → Bool
  | _, [] => true
  | last, o :: r => (decide (last < o.1) && decide (o.1 ≤ 1073741824) && mayO g o) && riseG g o.1 r
def mayOs (g : Gr) : Bool := decide (g.2.1.length ≤ 8) && riseG g (-1) g.2.1
def rootG (os : List Ob) (id : Int) : Bool := decide (id = -1) || decide (findG os id ≠ -1)
def mayRs (g : Gr) : Bool := decide (g.2.2.length ≤ 3) && g.2.2.all (rootG g.2.1)
def mayG (g : Gr) : Bool := mayS g.1 && mayOs g && mayRs g

theorem all2_iff {α β : Type} {p : α → β → Bool} : ∀ {l : List α} {m : List β}, all2 p l m = true ↔ l.length = m.length ∧ ∀ (i : Nat) a b, l[i]? = some a → m[i]? = some b → p a b = true
  | [], [] => by simp [all2]
  | [], b :: m => by simp [all2]
  | a :: l, [] => by simp [all2]
  | a :: l, b :: m => by
    rw [all2, Bool.and_eq_true, all2_iff]
    constructor
    · rintro ⟨h1, h2, h3⟩
      refine ⟨by simp [h2], fun i x y hx hy => ?_⟩
      cases i with
      | zero => simp at hx hy; subst hx hy; exact h1
      | succ i => simp at hx hy; exact h3 i x y hx hy
    · rintro ⟨h1, h2⟩
      exact ⟨h2 0 a b rfl rfl, by simpa using h1, fun i x y hx hy => h2 (i + 1) x y (by simpa using hx) (by simpa using hy)⟩
/-- From a place on. -/
theorem all2_at {α β : Type} {p : α → β → Bool} {l : List α} {m : List β} {i : Nat} {a : α} {b : β} (hl : l[i]? = some a) (hm : m[i]? = some b) : all2 p (l.drop i) (m.drop i) = (p a b && all2 p (l.drop (i + 1)) (m.drop (i + 1))) := by
  obtain ⟨h1, e1⟩ := List.getElem?_eq_some_iff.1 hl
  obtain ⟨h2, e2⟩ := List.getElem?_eq_some_iff.1 hm
  rw [List.drop_eq_getElem_cons h1, List.drop_eq_getElem_cons h2, all2, e1, e2]
theorem all2_end {α β : Type} {p : α → β → Bool} {l : List α} {m : List β} {i : Nat} (hl : l.length ≤ i) (hm : m.length ≤ i) : all2 p (l.drop i) (m.drop i) = true := by
  rw [List.drop_of_length_le hl, List.drop_of_length_le hm]; rfl
theorem all2_ne {α β : Type} {p : α → β → Bool} {l : List α} {m : List β} (h : l.length ≠ m.length) : all2 p l m = false := by
  cases e : all2 p l m
  · rfl
  · exact absurd (all2_iff.1 e).1 h
theorem riseG_at {g : Gr} {last : Int} {l : List Ob} {i : Nat} {o : Ob} (hl : l[i]? = some o) : riseG g last (l.drop i) = ((decide (last < o.1) && decide (o.1 ≤ 1073741824) && mayO g o) && riseG g o.1 (l.drop (i + 1))) := by
  obtain ⟨h1, e1⟩ := List.getElem?_eq_some_iff.1 hl
  rw [List.drop_eq_getElem_cons h1, riseG, e1]
theorem riseG_end {g : Gr} {last : Int} {l : List Ob} {i : Nat} (hl : l.length ≤ i) : riseG g last (l.drop i) = true := by
  rw [List.drop_of_length_le hl]; rfl
theorem all_at {α : Type} {p : α → Bool} {l : List α} {i : Nat} {a : α} (hl : l[i]? = some a) : (l.drop i).all p = (p a && (l.drop (i + 1)).all p) := by
  obtain ⟨h1, e1⟩ := List.getElem?_eq_some_iff.1 hl
  rw [List.drop_eq_getElem_cons h1, List.all_cons, e1]
theorem all_end {α : Type} {p : α → Bool} {l : List α} {i : Nat} (hl : l.length ≤ i) : (l.drop i).all p = true := by
  rw [List.drop_of_length_le hl]; rfl
/-- The object that is found. -/
theorem findG_at {os : List Ob} {id : Int} (h : findG os id ≠ -1) : ∃ i o, findG os id = ((i : Nat) : Int) ∧ os[i]? = some o ∧ o.1 = id ∧ typG os id = o.2.1 := by
  have h0 := idxP_low (fun o : Ob => decide (o.1 = id)) os
  obtain ⟨i, hi⟩ : ∃ i : Nat, findG os id = (i : Int) := ⟨(findG os id).toNat, by unfold findG at *; omega⟩
  obtain ⟨⟨o, ho, hp⟩, _⟩ := (idxP_iff _ os i).1 hi
  refine ⟨i, o, hi, ho, of_decide_eq_true hp, ?_⟩
  rw [typG, hi, Int.toNat_natCast, List.getD_eq_getElem?_getD, ho]
  rfl
theorem findG_low (os : List Ob) (id : Int) : -1 ≤ findG os id := idxP_low _ _
theorem findG_lt (os : List Ob) (id : Int) : findG os id < (os.length : Int) := idxP_lt _ _
theorem findG_mem {os : List Ob} {id : Int} : findG os id ≠ -1 ↔ ∃ o ∈ os, o.1 = id := by
  rw [Ne, findG, idxP_none]
  constructor
  · intro h
    rcases Classical.em (∃ o ∈ os, o.1 = id) with h1 | h1
    · exact h1
    · exact absurd (fun a ha => decide_eq_false fun e => h1 ⟨a, ha, e⟩) h
  · rintro ⟨o, ho, e⟩ h
    have := h o ho
    simp [e] at this
theorem fldsG_at {s : Sch} {t : Int} {i : Nat} {x : Typ} (ht : t = (i : Int)) (hx : s[i]? = some x) : fldsG s t = x.2 := by
  rw [fldsG, ht, Int.toNat_natCast, List.getD_eq_getElem?_getD, hx]; rfl
end Go.Proofs.Ytembafogbfcajaa
