/- The texts VlKind, GrPlain, GrComePlain, GrActs in one; what each proves, and its conditions, stands before it. -/
import Derived.Test.YteafbdebmhpffaaScPlainAll
/- Kinds of fields, and what fits them, on plain data. No condition. -/
namespace Go.Proofs.Yteafbdebmhpffaa

/-- A value: its number, its text's bytes, where it leads. -/
abbrev Vl := Int × List Nat × Int
abbrev vz : Vl := (0, [], 0)
def fitsV (k : Int) (v : Vl) : Bool :=
  if k = 0 then decide (-128 ≤ v.1 ∧ v.1 ≤ 127 ∧ v.2.1 = [] ∧ v.2.2 = 0)
  else if k = 1 then decide (-32768 ≤ v.1 ∧ v.1 ≤ 32767 ∧ v.2.1 = [] ∧ v.2.2 = 0)
  else if k = 2 then decide (-2147483648 ≤ v.1 ∧ v.1 ≤ 2147483647 ∧ v.2.1 = [] ∧ v.2.2 = 0)
  else if k = 3 then decide (v.2.1 = [] ∧ v.2.2 = 0)
  else if k = 4 then decide (v.2.1.length ≤ 12 ∧ v.1 = 0 ∧ v.2.2 = 0)
  else if k = 5 then decide (-1 ≤ v.2.2 ∧ v.2.2 ≤ 1073741824 ∧ v.1 = 0 ∧ v.2.1 = [])
  else false
def zeroV (k : Int) : Vl := if k = 5 then (0, [], -1) else vz
/-- A number of 64 bits, and bytes. -/
def OkV (v : Vl) : Prop := (-9223372036854775808 ≤ v.1 ∧ v.1 ≤ 9223372036854775807) ∧ ∀ x ∈ v.2.1, x < 256

theorem vl_fits_0 {v : Vl} : fitsV 0 v = decide (-128 ≤ v.1 ∧ v.1 ≤ 127 ∧ v.2.1 = [] ∧ v.2.2 = 0) := rfl
theorem vl_fits_1 {v : Vl} : fitsV 1 v = decide (-32768 ≤ v.1 ∧ v.1 ≤ 32767 ∧ v.2.1 = [] ∧ v.2.2 = 0) := rfl
theorem vl_fits_2 {v : Vl} : fitsV 2 v = decide (-2147483648 ≤ v.1 ∧ v.1 ≤ 2147483647 ∧ v.2.1 = [] ∧ v.2.2 = 0) := rfl
theorem vl_fits_3 {v : Vl} : fitsV 3 v = decide (v.2.1 = [] ∧ v.2.2 = 0) := rfl
theorem vl_fits_4 {v : Vl} : fitsV 4 v = decide (v.2.1.length ≤ 12 ∧ v.1 = 0 ∧ v.2.2 = 0) := rfl
theorem vl_fits_5 {v : Vl} : fitsV 5 v = decide (-1 ≤ v.2.2 ∧ v.2.2 ≤ 1073741824 ∧ v.1 = 0 ∧ v.2.1 = []) := rfl
theorem vl_fits_x {k : Int} {v : Vl} (h : ¬ (0 ≤ k ∧ k ≤ 5)) : fitsV k v = false := by
  rw [fitsV, if_neg (by omega), if_neg (by omega), if_neg (by omega), if_neg (by omega), if_neg (by omega), if_neg (by omega)]
/-- The vl_kinds, one by one. -/
theorem vl_kinds (k : Int) : k = 0 ∨ k = 1 ∨ k = 2 ∨ k = 3 ∨ k = 4 ∨ k = 5 ∨ ¬ (0 ≤ k ∧ k ≤ 5) := by omega
/-- What fits a number's kind is a number alone. -/
theorem vl_fits_num {k : Int} {v : Vl} (h4 : k ≠ 4) (h5 : k ≠ 5) (h : fitsV k v = true) : v.2.1 = [] ∧ v.2.2 = 0 := by
  rcases vl_kinds k with rfl | rfl | rfl | rfl | rfl | rfl | hk
  · rw [vl_fits_0] at h; exact (of_decide_eq_true h).2.2
  · rw [vl_fits_1] at h; exact (of_decide_eq_true h).2.2
  · rw [vl_fits_2] at h; exact (of_decide_eq_true h).2.2
  · rw [vl_fits_3] at h; exact of_decide_eq_true h
  · exact absurd rfl h4
  · exact absurd rfl h5
  · rw [vl_fits_x hk] at h; cases h
theorem vl_fits_zero (k : Int) : fitsV k (zeroV k) = decide (0 ≤ k ∧ k ≤ 5) := by
  rcases vl_kinds k with rfl | rfl | rfl | rfl | rfl | rfl | hk
  · decide
  · decide
  · decide
  · decide
  · decide
  · decide
  · rw [vl_fits_x hk, decide_eq_false hk]
end Go.Proofs.Yteafbdebmhpffaa

/- Graphs, on plain data: which may be, where an object stands, what is come to. No condition. -/
namespace Go.Proofs.Yteafbdebmhpffaa

/-- An object: its id, its type's place, its values. -/
abbrev Ob := Int × Int × List Vl
/-- A graph: its schema, its objects, its roots. -/
abbrev Gr := Sch × List Ob × List Int
instance decVl : DecidableEq Vl := inferInstance
instance decVls : DecidableEq (List Vl) := inferInstance
instance decObT : DecidableEq (Int × List Vl) := inferInstance
instance decOb : DecidableEq Ob := inferInstance
instance decObs : DecidableEq (List Ob) := inferInstance
instance decGrT : DecidableEq (List Ob × List Int) := inferInstance
instance decGr : DecidableEq Gr := fun a b => if h : a.1 = b.1 then (if k : a.2 = b.2 then isTrue (Prod.ext h k) else isFalse fun e => k (by rw [e])) else isFalse fun e => h (by rw [e])
def findG (os : List Ob) (id : Int) : Int := idxP (fun o => decide (o.1 = id)) os
/-- The type's place of the object of an id. -/
def typG (os : List Ob) (id : Int) : Int := (os.getD (findG os id).toNat (0, 0, [])).2.1
def haveG (g : Gr) (f : Fld) (v : Vl) : Bool :=
  fitsV f.2.1 v && (decide (f.2.1 ≠ 5) || decide (v.2.2 = -1) || (decide (findG g.2.1 v.2.2 ≠ -1) && decide (typG g.2.1 v.2.2 = findS g.1 f.2.2)))
/-- Two lists of one length, place by place. -/
def all2 {α β : Type} (p : α → β → Bool) : List α → List β → Bool
  | [], [] => true
  | a :: l, b :: m => p a b && all2 p l m
  | _, _ => false
def fldsG (s : Sch) (t : Int) : List Fld := (s.getD t.toNat ([], [])).2
def mayO (g : Gr) (o : Ob) : Bool := (decide (0 ≤ o.2.1) && decide (o.2.1 < (g.1.length : Int))) && all2 (haveG g) (fldsG g.1 o.2.1) o.2.2
def riseG (g : Gr) : Int → List Ob → Bool
  | _, [] => true
  | last, o :: r => (decide (last < o.1) && decide (o.1 ≤ 1073741824) && mayO g o) && riseG g o.1 r
def mayOs (g : Gr) : Bool := decide (g.2.1.length ≤ 8) && riseG g (-1) g.2.1
def rootG (os : List Ob) (id : Int) : Bool := decide (id = -1) || decide (findG os id ≠ -1)
def mayRs (g : Gr) : Bool := decide (g.2.2.length ≤ 3) && g.2.2.all (rootG g.2.1)
def mayG (g : Gr) : Bool := mayS g.1 && mayOs g && mayRs g

theorem all2_iff {α β : Type} {p : α → β → Bool} : ∀ {l : List α} {m : List β}, all2 p l m = true ↔ l.length = m.length ∧ ∀ (i : Nat) a b, l[i]? = some a → m[i]? = some b → p a b = true
  | [], [] => by simp [all2]
  | [], b :: m => by simp [all2]
  | a :: l, [] => by simp [all2]
  | a :: l, b :: m => by
    rw [all2, Bool.and_eq_true, all2_iff]
    constructor
    · rintro ⟨h1, h2, h3⟩
      refine ⟨by simp [h2], fun i x y hx hy => ?_⟩
      cases i with
      | zero => simp at hx hy; subst hx hy; exact h1
      | succ i => simp at hx hy; exact h3 i x y hx hy
    · rintro ⟨h1, h2⟩
      exact ⟨h2 0 a b rfl rfl, by simpa using h1, fun i x y hx hy => h2 (i + 1) x y (by simpa using hx) (by simpa using hy)⟩
/-- From a place on. -/
theorem all2_at {α β : Type} {p : α → β → Bool} {l : List α} {m : List β} {i : Nat} {a : α} {b : β} (hl : l[i]? = some a) (hm : m[i]? = some b) : all2 p (l.drop i) (m.drop i) = (p a b && all2 p (l.drop (i + 1)) (m.drop (i + 1))) := by
  obtain ⟨h1, e1⟩ := List.getElem?_eq_some_iff.1 hl
  obtain ⟨h2, e2⟩ := List.getElem?_eq_some_iff.1 hm
  rw [List.drop_eq_getElem_cons h1, List.drop_eq_getElem_cons h2, all2, e1, e2]
theorem all2_end {α β : Type} {p : α → β → Bool} {l : List α} {m : List β} {i : Nat} (hl : l.length ≤ i) (hm : m.length ≤ i) : all2 p (l.drop i) (m.drop i) = true := by
  rw [List.drop_of_length_le hl, List.drop_of_length_le hm]; rfl
theorem all2_ne {α β : Type} {p : α → β → Bool} {l : List α} {m : List β} (h : l.length ≠ m.length) : all2 p l m = false := by
  cases e : all2 p l m
  · rfl
  · exact absurd (all2_iff.1 e).1 h
theorem riseG_at {g : Gr} {last : Int} {l : List Ob} {i : Nat} {o : Ob} (hl : l[i]? = some o) : riseG g last (l.drop i) = ((decide (last < o.1) && decide (o.1 ≤ 1073741824) && mayO g o) && riseG g o.1 (l.drop (i + 1))) := by
  obtain ⟨h1, e1⟩ := List.getElem?_eq_some_iff.1 hl
  rw [List.drop_eq_getElem_cons h1, riseG, e1]
theorem riseG_end {g : Gr} {last : Int} {l : List Ob} {i : Nat} (hl : l.length ≤ i) : riseG g last (l.drop i) = true := by
  rw [List.drop_of_length_le hl]; rfl
theorem all_at {α : Type} {p : α → Bool} {l : List α} {i : Nat} {a : α} (hl : l[i]? = some a) : (l.drop i).all p = (p a && (l.drop (i + 1)).all p) := by
  obtain ⟨h1, e1⟩ := List.getElem?_eq_some_iff.1 hl
  rw [List.drop_eq_getElem_cons h1, List.all_cons, e1]
theorem all_end {α : Type} {p : α → Bool} {l : List α} {i : Nat} (hl : l.length ≤ i) : (l.drop i).all p = true := by
  rw [List.drop_of_length_le hl]; rfl
/-- The object that is found. -/
theorem findG_at {os : List Ob} {id : Int} (h : findG os id ≠ -1) : ∃ i o, findG os id = ((i : Nat) : Int) ∧ os[i]? = some o ∧ o.1 = id ∧ typG os id = o.2.1 := by
  have h0 := idxP_low (fun o : Ob => decide (o.1 = id)) os
  obtain ⟨i, hi⟩ : ∃ i : Nat, findG os id = (i : Int) := ⟨(findG os id).toNat, by unfold findG at *; omega⟩
  obtain ⟨⟨o, ho, hp⟩, _⟩ := (idxP_iff _ os i).1 hi
  refine ⟨i, o, hi, ho, of_decide_eq_true hp, ?_⟩
  rw [typG, hi, Int.toNat_natCast, List.getD_eq_getElem?_getD, ho]
  rfl
theorem findG_low (os : List Ob) (id : Int) : -1 ≤ findG os id := idxP_low _ _
theorem findG_lt (os : List Ob) (id : Int) : findG os id < (os.length : Int) := idxP_lt _ _
theorem findG_mem {os : List Ob} {id : Int} : findG os id ≠ -1 ↔ ∃ o ∈ os, o.1 = id := by
  rw [Ne, findG, idxP_none]
  constructor
  · intro h
    rcases Classical.em (∃ o ∈ os, o.1 = id) with h1 | h1
    · exact h1
    · exact absurd (fun a ha => decide_eq_false fun e => h1 ⟨a, ha, e⟩) h
  · rintro ⟨o, ho, e⟩ h
    have := h o ho
    simp [e] at this
theorem fldsG_at {s : Sch} {t : Int} {i : Nat} {x : Typ} (ht : t = (i : Int)) (hx : s[i]? = some x) : fldsG s t = x.2 := by
  rw [fldsG, ht, Int.toNat_natCast, List.getD_eq_getElem?_getD, hx]; rfl
end Go.Proofs.Yteafbdebmhpffaa

/- What is come to, on plain data: what a walk through the objects leaves. No condition. -/
namespace Go.Proofs.Yteafbdebmhpffaa

/-- Where an object's Refs lead. -/
def refsG (s : Sch) (o : Ob) : List Int := ((fldsG s o.2.1).zip o.2.2).filterMap fun p => if p.1.2.1 = 5 ∧ p.2.2.2 ≠ -1 then some p.2.2.2 else none
theorem refsG_mem {s : Sch} {o : Ob} {r : Int} : r ∈ refsG s o ↔ ∃ (k : Nat) (f : Fld) (v : Vl), (fldsG s o.2.1)[k]? = some f ∧ o.2.2[k]? = some v ∧ f.2.1 = 5 ∧ v.2.2 ≠ -1 ∧ v.2.2 = r := by
  rw [refsG, List.mem_filterMap]
  constructor
  · rintro ⟨⟨f, v⟩, hp, hr⟩
    obtain ⟨k, hk⟩ := List.getElem?_of_mem hp
    rw [List.getElem?_zip_eq_some] at hk
    simp only at hr
    split at hr
    · rename_i hc
      injection hr with hr
      exact ⟨k, f, v, hk.1, hk.2, hc.1, hc.2, hr⟩
    · cases hr
  · rintro ⟨k, f, v, h1, h2, h3, h4, h5⟩
    refine ⟨(f, v), List.mem_of_getElem? (List.getElem?_zip_eq_some.2 ⟨h1, h2⟩), ?_⟩
    simp only [h3, h5, true_and]
    rw [if_pos (by rw [← h5]; exact h4)]
/-- What one comes to from an object. -/
inductive From (g : Gr) (id : Int) : Int → Prop
  | here : From g id id
  | step {o : Ob} {r : Int} : From g id o.1 → o ∈ g.2.1 → r ∈ refsG g.1 o → From g id r
/-- What is come to. -/
def ComeG (g : Gr) (x : Int) : Prop := ∃ id ∈ g.2.2, id ≠ -1 ∧ From g id x
theorem From.trans {g : Gr} {a b x : Int} (h : From g a b) (k : From g b x) : From g a x := by
  induction k with
  | here => exact h
  | step _ ho hr ih => exact .step ih ho hr
/-- M' is M, and all that one comes to from id, but what is come to by way of M alone. -/
structure Dfs (g : Gr) (M M' : List Int) (id : Int) : Prop where
  more : ∀ x ∈ M, x ∈ M'
  this : id ≠ -1 → id ∈ M'
  only : ∀ x ∈ M', x ∉ M → id ≠ -1 ∧ From g id x
  shut : ∀ x ∈ M', x ∉ M → ∀ o ∈ g.2.1, o.1 = x → ∀ r ∈ refsG g.1 o, r ∈ M'
theorem Dfs.skip {g : Gr} {M : List Int} {id : Int} (h : id = -1 ∨ id ∈ M) : Dfs g M M id :=
  ⟨fun _ h => h, fun hn => h.resolve_left hn, fun _ h h' => absurd h h', fun _ h h' => absurd h h'⟩
/-- So far, on the way through an object's fields. -/
structure DfsI (g : Gr) (M Mi : List Int) (o : Ob) (i : Nat) : Prop where
  more : ∀ x ∈ M ++ [o.1], x ∈ Mi
  only : ∀ x ∈ Mi, x ∉ M ++ [o.1] → From g o.1 x
  shut : ∀ x ∈ Mi, x ∉ M ++ [o.1] → ∀ p ∈ g.2.1, p.1 = x → ∀ r ∈ refsG g.1 p, r ∈ Mi
  refs : ∀ (k : Nat) (f : Fld) (v : Vl), k < i → (fldsG g.1 o.2.1)[k]? = some f → o.2.2[k]? = some v → f.2.1 = 5 → v.2.2 ≠ -1 → v.2.2 ∈ Mi
theorem DfsI.start (g : Gr) (M : List Int) (o : Ob) : DfsI g M (M ++ [o.1]) o 0 :=
  ⟨fun _ h => h, fun _ h h' => absurd h h', fun _ h h' => absurd h h', fun _ _ _ hk => absurd hk (Nat.not_lt_zero _)⟩
/-- A field that is no Ref. -/
theorem DfsI.pass {g : Gr} {M Mi : List Int} {o : Ob} {i : Nat} {f : Fld} (h : DfsI g M Mi o i) (hf : (fldsG g.1 o.2.1)[i]? = some f) (h5 : f.2.1 ≠ 5) : DfsI g M Mi o (i + 1) :=
  ⟨h.more, h.only, h.shut, fun k f' v hk hf' hv h5' hr => by
    by_cases hki : k < i
    · exact h.refs k f' v hki hf' hv h5' hr
    · obtain rfl : k = i := by omega
      rw [hf] at hf'
      injection hf' with e
      subst e
      exact absurd h5' h5⟩
/-- A Ref that was gone along. -/
theorem DfsI.step {g : Gr} {M Mi Mj : List Int} {o : Ob} {i : Nat} {f : Fld} {v : Vl} (h : DfsI g M Mi o i) (ho : o ∈ g.2.1) (hf : (fldsG g.1 o.2.1)[i]? = some f) (hv : o.2.2[i]? = some v) (h5 : f.2.1 = 5) (hd : Dfs g Mi Mj v.2.2) : DfsI g M Mj o (i + 1) := by
  refine ⟨fun x hx => hd.more x (h.more x hx), fun x hx hn => ?_, fun x hx hn p hp hpx r hr => ?_, fun k f' v' hk hf' hv' h5' hr => ?_⟩
  · by_cases hi : x ∈ Mi
    · exact h.only x hi hn
    · obtain ⟨h1, h2⟩ := hd.only x hx hi
      exact (From.step .here ho (refsG_mem.2 ⟨i, f, v, hf, hv, h5, h1, rfl⟩)).trans h2
  · by_cases hi : x ∈ Mi
    · exact hd.more r (h.shut x hi hn p hp hpx r hr)
    · exact hd.shut x hx hi p hp hpx r hr
  · by_cases hki : k < i
    · exact hd.more _ (h.refs k f' v' hki hf' hv' h5' hr)
    · obtain rfl : k = i := by omega
      rw [hv] at hv'
      injection hv' with e
      subst e
      exact hd.this hr
/-- All fields: where ids tell objects apart. -/
theorem DfsI.all {g : Gr} {M Mi : List Int} {o : Ob} {i : Nat} (h : DfsI g M Mi o i) (ho : o ∈ g.2.1) (hi : o.2.2.length ≤ i) (hn : o.1 ≠ -1) (hu : ∀ p ∈ g.2.1, p.1 = o.1 → p = o) : Dfs g M Mi o.1 := by
  refine ⟨fun x hx => h.more x (List.mem_append_left _ hx), fun _ => h.more _ (by simp), fun x hx hm => ⟨hn, ?_⟩, fun x hx hm p hp hpx r hr => ?_⟩
  · by_cases he : x = o.1
    · subst he; exact .here
    · exact h.only x hx (by simp [hm, he])
  · by_cases he : x = o.1
    · subst he
      obtain rfl := hu p hp hpx
      obtain ⟨k, f, v, h1, h2, h3, h4, h5⟩ := refsG_mem.1 hr
      rw [← h5]
      exact h.refs k f v (Nat.lt_of_lt_of_le (List.getElem?_eq_some_iff.1 h2).1 hi) h1 h2 h3 h4
    · exact h.shut x hx (by simp [hm, he]) p hp hpx r hr
/-- How many objects were not come to. -/
def cntG (os : List Ob) (M : List Int) : Nat := (os.filter fun o => decide (o.1 ∉ M)).length
theorem cntG_cons (p : Ob) (os : List Ob) (M : List Int) : cntG (p :: os) M = (if p.1 ∈ M then 0 else 1) + cntG os M := by
  unfold cntG
  rw [List.filter_cons]
  by_cases h : p.1 ∈ M
  · simp [h]
  · simp [h]; omega
theorem cntG_le {os : List Ob} {M M' : List Int} (h : ∀ x ∈ M, x ∈ M') : cntG os M' ≤ cntG os M := by
  induction os with
  | nil => simp [cntG]
  | cons o os ih =>
    rw [cntG_cons, cntG_cons]
    by_cases h1 : o.1 ∈ M
    · rw [if_pos h1, if_pos (h _ h1)]; omega
    · rw [if_neg h1]; split <;> omega
theorem cntG_lt {os : List Ob} {M : List Int} {o : Ob} (ho : o ∈ os) (hn : o.1 ∉ M) : cntG os (M ++ [o.1]) + 1 ≤ cntG os M := by
  induction os with
  | nil => simp at ho
  | cons p os ih =>
    have hle := cntG_le (os := os) (M := M) (M' := M ++ [o.1]) fun x hx => List.mem_append_left _ hx
    rw [cntG_cons, cntG_cons]
    rcases List.mem_cons.1 ho with h | h
    · subst h
      rw [if_pos (by simp), if_neg hn]; omega
    · have := ih h
      by_cases h3 : p.1 ∈ M
      · rw [if_pos (List.mem_append_left _ h3), if_pos h3]; omega
      · rw [if_neg h3]; split <;> omega
/-- Through all roots. -/
structure DfsR (g : Gr) (M : List Int) (i : Nat) : Prop where
  only : ∀ x ∈ M, ComeG g x
  shut : ∀ x ∈ M, ∀ o ∈ g.2.1, o.1 = x → ∀ r ∈ refsG g.1 o, r ∈ M
  roots : ∀ (k : Nat) (r : Int), k < i → g.2.2[k]? = some r → r ≠ -1 → r ∈ M
theorem DfsR.start (g : Gr) : DfsR g [] 0 := ⟨fun _ h => by simp at h, fun _ h => by simp at h, fun _ _ h => absurd h (Nat.not_lt_zero _)⟩
theorem DfsR.step {g : Gr} {M M' : List Int} {i : Nat} {r : Int} (h : DfsR g M i) (hr : g.2.2[i]? = some r) (hd : Dfs g M M' r) : DfsR g M' (i + 1) := by
  refine ⟨fun x hx => ?_, fun x hx o ho hox s hs => ?_, fun k s hk hs hn => ?_⟩
  · by_cases hm : x ∈ M
    · exact h.only x hm
    · obtain ⟨h1, h2⟩ := hd.only x hx hm
      exact ⟨r, List.mem_of_getElem? hr, h1, h2⟩
  · by_cases hm : x ∈ M
    · exact hd.more s (h.shut x hm o ho hox s hs)
    · exact hd.shut x hx hm o ho hox s hs
  · by_cases hki : k < i
    · exact hd.more s (h.roots k s hki hs hn)
    · obtain rfl : k = i := by omega
      rw [hr] at hs
      injection hs with e
      subst e
      exact hd.this hn
theorem DfsR.all {g : Gr} {M : List Int} {i : Nat} (h : DfsR g M i) (hi : g.2.2.length ≤ i) (x : Int) : x ∈ M ↔ ComeG g x := by
  refine ⟨h.only x, ?_⟩
  rintro ⟨id, hid, hn, hf⟩
  induction hf with
  | here =>
    obtain ⟨k, hk⟩ := List.getElem?_of_mem hid
    exact h.roots k _ (Nat.lt_of_lt_of_le (List.getElem?_eq_some_iff.1 hk).1 hi) hk hn
  | step _ ho hr ih => exact h.shut _ ih _ ho rfl _ hr
/-- Of a graph that may be: its objects. -/
theorem riseG_mem {g : Gr} : ∀ {last : Int} {l : List Ob}, riseG g last l = true → ∀ o ∈ l, last < o.1 ∧ o.1 ≤ 1073741824 ∧ mayO g o = true
  | _, [], _, o, ho => by simp at ho
  | last, p :: r, h, o, ho => by
    rw [riseG, Bool.and_eq_true, Bool.and_eq_true, Bool.and_eq_true, decide_eq_true_eq, decide_eq_true_eq] at h
    obtain ⟨⟨⟨h1, h2⟩, h3⟩, h4⟩ := h
    rcases List.mem_cons.1 ho with e | ho
    · subst e; exact ⟨h1, h2, h3⟩
    · obtain ⟨h5, h6, h7⟩ := riseG_mem h4 o ho
      exact ⟨by omega, h6, h7⟩
theorem riseG_sorted {g : Gr} : ∀ {last : Int} {l : List Ob}, riseG g last l = true → l.Pairwise fun o p => o.1 < p.1
  | _, [], _ => List.Pairwise.nil
  | last, p :: r, h => by
    rw [riseG, Bool.and_eq_true] at h
    exact List.Pairwise.cons (fun o ho => (riseG_mem h.2 o ho).1) (riseG_sorted h.2)
theorem sorted_apart {l : List Ob} (h : l.Pairwise fun o p => o.1 < p.1) {o p : Ob} (ho : o ∈ l) (hp : p ∈ l) (e : o.1 = p.1) : o = p := by
  induction l with
  | nil => simp at ho
  | cons q l ih =>
    rw [List.pairwise_cons] at h
    rcases List.mem_cons.1 ho with e1 | ho1
    · rcases List.mem_cons.1 hp with e2 | hp1
      · rw [e1, e2]
      · have := h.1 p hp1; rw [e1] at e; omega
    · rcases List.mem_cons.1 hp with e2 | hp1
      · have := h.1 o ho1; rw [e2] at e; omega
      · exact ih h.2 ho1 hp1
structure MayObj (g : Gr) (o : Ob) : Prop where
  id0 : 0 ≤ o.1
  id1 : o.1 ≤ 1073741824
  t0 : 0 ≤ o.2.1
  t1 : o.2.1 < (g.1.length : Int)
  len : (fldsG g.1 o.2.1).length = o.2.2.length
  have' : ∀ (k : Nat) f v, (fldsG g.1 o.2.1)[k]? = some f → o.2.2[k]? = some v → haveG g f v = true
theorem mayG_parts {g : Gr} (h : mayG g = true) : mayS g.1 = true ∧ g.2.1.length ≤ 8 ∧ riseG g (-1) g.2.1 = true ∧ g.2.2.length ≤ 3 ∧ ∀ r ∈ g.2.2, rootG g.2.1 r = true := by
  rw [mayG, mayOs, mayRs] at h
  simp only [Bool.and_eq_true, decide_eq_true_eq, List.all_eq_true] at h
  exact ⟨h.1.1, h.1.2.1, h.1.2.2, h.2.1, h.2.2⟩
theorem mayO_iff {g : Gr} {o : Ob} : mayO g o = true ↔ (0 ≤ o.2.1 ∧ o.2.1 < (g.1.length : Int)) ∧ (fldsG g.1 o.2.1).length = o.2.2.length ∧ ∀ (k : Nat) f v, (fldsG g.1 o.2.1)[k]? = some f → o.2.2[k]? = some v → haveG g f v = true := by
  rw [mayO, Bool.and_eq_true, Bool.and_eq_true, decide_eq_true_eq, decide_eq_true_eq, all2_iff]
theorem mayG_obj {g : Gr} (h : mayG g = true) {o : Ob} (ho : o ∈ g.2.1) : MayObj g o := by
  obtain ⟨h1, h2, h3⟩ := riseG_mem (mayG_parts h).2.2.1 o ho
  obtain ⟨h4, h5, h6⟩ := mayO_iff.1 h3
  exact ⟨by omega, h2, h4.1, h4.2, h5, h6⟩
theorem mayG_apart {g : Gr} (h : mayG g = true) {o p : Ob} (ho : o ∈ g.2.1) (hp : p ∈ g.2.1) (e : o.1 = p.1) : o = p := sorted_apart (riseG_sorted (mayG_parts h).2.2.1) ho hp e
theorem haveG_ref {g : Gr} {f : Fld} {v : Vl} (h : haveG g f v = true) (h5 : f.2.1 = 5) (hr : v.2.2 ≠ -1) : findG g.2.1 v.2.2 ≠ -1 ∧ typG g.2.1 v.2.2 = findS g.1 f.2.2 := by
  rw [haveG] at h
  simp only [h5, ne_eq, not_true_eq_false, decide_false, Bool.false_or, hr, Bool.and_eq_true, decide_eq_true_eq] at h
  exact ⟨by simpa using h.2.1, h.2.2⟩
end Go.Proofs.Yteafbdebmhpffaa

/- What a graph's acts answer, on plain data: swept, reached, a new object, a value set, a root set, and why not. No condition. -/
namespace Go.Proofs.Yteafbdebmhpffaa
open Go.RowKit

open Classical in
/-- Swept: what is come to alone. -/
noncomputable def sweepG (g : Gr) : Gr := if mayG g = true then (g.1, g.2.1.filter (fun o => decide (ComeG g o.1)), g.2.2) else ([], [], [])
/-- The ids that are come to. -/
noncomputable def reachG (g : Gr) : List Int := (sweepG g).2.1.map (·.1)
theorem sweepG_no {g : Gr} (h : mayG g = false) : sweepG g = ([], [], []) := if_neg (by rw [h]; decide)
open Classical in
theorem sweepG_yes {g : Gr} (h : mayG g = true) : sweepG g = (g.1, g.2.1.filter (fun o => decide (ComeG g o.1)), g.2.2) := if_pos h
theorem sweepG_set {g : Gr} {L : List Int} (h : mayG g = true) (hL : ∀ x, x ∈ L ↔ ComeG g x) : sweepG g = (g.1, g.2.1.filter (fun o => decide (o.1 ∈ L)), g.2.2) := by
  rw [sweepG_yes h]
  congr 2
  exact List.filter_congr fun o _ => by simp [hL]
def nextG (os : List Ob) : Int := match os.getLast? with | none => 0 | some o => o.1 + 1
def newE (g : Gr) (t : Int) : Int := if mayG g = true then if (decide (0 ≤ t) && decide (t < (g.1.length : Int))) = true then if g.2.1.length = 8 ∨ 1073741824 < nextG g.2.1 then 8 else 0 else 6 else 1
/-- The object of an id. -/
def objG (os : List Ob) (id : Int) : Ob := os.getD (findG os id).toNat (0, 0, [])
def setE (g : Gr) (id k : Int) (v : Vl) : Int :=
  if mayG g = true then if findG g.2.1 id ≠ -1 ∧ (decide (0 ≤ k) && decide (k < ((objG g.2.1 id).2.2.length : Int))) = true then if haveG g ((fldsG g.1 (objG g.2.1 id).2.1).getD k.toNat ([], 0, [])) v = true then 0 else 6 else 11 else 1
def rootE (g : Gr) (i id : Int) : Int := if mayG g = true then if (decide (0 ≤ i) && decide (i < 3)) = true ∧ i ≤ (g.2.2.length : Int) ∧ rootG g.2.1 id = true then 0 else 11 else 1
theorem nextG_nil : nextG [] = 0 := rfl
theorem nextG_last {os : List Ob} {o : Ob} (h : os[os.length - 1]? = some o) : nextG os = o.1 + 1 := by
  rw [nextG, List.getLast?_eq_getElem?, h]
theorem objG_at {os : List Ob} {id : Int} {i : Nat} {o : Ob} (hi : findG os id = (i : Int)) (ho : os[i]? = some o) : objG os id = o := by
  rw [objG, hi, Int.toNat_natCast, List.getD_eq_getElem?_getD, ho]; rfl
def newG (g : Gr) (t : Int) : Gr := if newE g t = 0 then (g.1, g.2.1 ++ [(nextG g.2.1, t, (fldsG g.1 t).map fun f => zeroV f.2.1)], g.2.2) else g
def newI (g : Gr) (t : Int) : Int := if newE g t = 0 then nextG g.2.1 else -1
theorem newE_0 {g : Gr} {t : Int} (h : newE g t = 0) : mayG g = true ∧ (0 ≤ t ∧ t < (g.1.length : Int)) ∧ g.2.1.length ≠ 8 ∧ nextG g.2.1 ≤ 1073741824 := by
  rw [newE] at h
  split at h
  · rename_i h1
    split at h
    · rename_i h2
      split at h
      · cases h
      · simp at h2
        exact ⟨h1, h2, by omega, by omega⟩
    · cases h
  · cases h
def rootN (g : Gr) (i id : Int) : Gr := if rootE g i id = 0 then (g.1, g.2.1, if i = (g.2.2.length : Int) then g.2.2 ++ [id] else g.2.2.set i.toNat id) else g
theorem rootE_0 {g : Gr} {i id : Int} (h : rootE g i id = 0) : mayG g = true ∧ 0 ≤ i ∧ i < 3 ∧ i ≤ (g.2.2.length : Int) ∧ rootG g.2.1 id = true := by
  rw [rootE] at h
  split at h
  · rename_i h1
    split at h
    · rename_i h2
      obtain ⟨h3, h4, h5⟩ := h2
      simp at h3
      exact ⟨h1, h3.1, h3.2, h4, h5⟩
    · cases h
  · cases h
def setN (g : Gr) (id k : Int) (v : Vl) : Gr := if setE g id k v = 0 then (g.1, g.2.1.set (findG g.2.1 id).toNat ((objG g.2.1 id).1, (objG g.2.1 id).2.1, (objG g.2.1 id).2.2.set k.toNat v), g.2.2) else g
theorem setE_0 {g : Gr} {id k : Int} {v : Vl} (h : setE g id k v = 0) : mayG g = true ∧ findG g.2.1 id ≠ -1 ∧ 0 ≤ k ∧ k < ((objG g.2.1 id).2.2.length : Int) ∧ haveG g ((fldsG g.1 (objG g.2.1 id).2.1).getD k.toNat ([], 0, [])) v = true := by
  rw [setE] at h
  split at h
  · rename_i h1
    split at h
    · rename_i h2
      split at h
      · rename_i h3
        have h4 := h2.2
        simp at h4
        exact ⟨h1, h2.1, h4.1, h4.2, h3⟩
      · cases h
    · cases h
  · cases h
end Go.Proofs.Yteafbdebmhpffaa
