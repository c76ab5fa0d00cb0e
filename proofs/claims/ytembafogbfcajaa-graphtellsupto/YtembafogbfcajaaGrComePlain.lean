/- What is come to, on plain data: what a walk through the objects leaves. No condition. -/
import Derived.Test.YtembafogbfcajaaGrPlain
namespace Go.Proofs.Ytembafogbfcajaa

/-- Where an object's Refs lead. -/
def refsG (s : Sch) (o : Ob) : List Int := ((fldsG s o.2.1).zip o.2.2).filterMap fun p => if p.1.2.1 = 5 ∧ p.2.2.2 ≠ -1 then some p.2.2.2 else none
theorem refsG_mem {s : Sch} {o : Ob} {r : Int} : r ∈ refsG s o ↔ ∃ (k : Nat) (f : Fld) (v : Vl), (fldsG s o.2.1)[k]? = some f ∧ o.2.2[k]? = some v ∧ f.2.1 = 5 ∧ v.2.2 ≠ -1 ∧ v.2.2 = r := by
  rw [refsG, List.mem_filterMap]
  constructor
  · rintro ⟨⟨f, v⟩, hp, hr⟩
    obtain ⟨k, hk⟩ := List.getElem?_of_mem hp
    rw [List.getElem?_zip_eq_some] at hk
    simp only at hr
    split at hr
    · rename_i hc
      injection hr with hr
      exact ⟨k, f, v, hk.1, hk.2, hc.1, hc.2, hr⟩
    · cases hr
  · rintro ⟨k, f, v, h1, h2, h3, h4, h5⟩
    refine ⟨(f, v), List.mem_of_getElem? (List.getElem?_zip_eq_some.2 ⟨h1, h2⟩), ?_⟩
    simp only [h3, h5, true_and]
    rw [if_pos (by rw [← h5]; exact h4)]
/-- What one comes to from an object. -/
inductive From (g : Gr) (id : Int) : Int → Prop
  | here : From g id id
  | step {o : Ob} {r : Int} : From g id o.1 → o ∈ g.2.1 → r ∈ refsG g.1 o → From g id r
/-- What is come to. -/
def ComeG (g : Gr) (x : Int) : Prop := ∃ id ∈ g.2.2, id ≠ -1 ∧ From g id x
theorem From.trans {g : Gr} {a b x : Int} (h : From g a b) (k : From g b x) : From g a x := by
  induction k with
  | here => exact h
  | step _ ho hr ih => exact .step ih ho hr
/-- M' is M, and all that one comes to from id, but what is come to by way of M alone. -/
structure Dfs (g : Gr) (M M' : List Int) (id : Int) : Prop where
  more : ∀ x ∈ M, x ∈ M'
  this : id ≠ -1 → id ∈ M'
  only : ∀ x ∈ M', x ∉ M → id ≠ -1 ∧ From g id x
  shut : ∀ x ∈ M', x ∉ M → ∀ o ∈ g.2.1, o.1 = x → ∀ r ∈ refsG g.1 o, r ∈ M'
theorem Dfs.skip {g : Gr} {M : List Int} {id : Int} (h : id = -1 ∨ id ∈ M) : Dfs g M M id :=
  ⟨fun _ h => h, fun hn => h.resolve_left hn, fun _ h h' => absurd h h', fun _ h h' => absurd h h'⟩
/-- So far, on the way through an object's fields. -/
structure DfsI (g : Gr) (M Mi : List Int) (o : Ob) (i : Nat) : Prop where
  more : ∀ x ∈ M ++ [o.1], x ∈ Mi
  only : ∀ x ∈ Mi, x ∉ M ++ [o.1] → From g o.1 x
  shut : ∀ x ∈ Mi, x ∉ M ++ [o.1] → ∀ p ∈ g.2.1, p.1 = x → ∀ r ∈ refsG g.1 p, r ∈ Mi
  refs : ∀ (k : Nat) (f : Fld) (v : Vl), k < i → (fldsG g.1 o.2.1)[k]? = some f → o.2.2[k]? = some v → f.2.1 = 5 → v.2.2 ≠ -1 → v.2.2 ∈ Mi
theorem DfsI.start (g : Gr) (M : List Int) (o : Ob) : DfsI g M (M ++ [o.1]) o 0 :=
  ⟨fun _ h => h, fun _ h h' => absurd h h', fun _ h h' => absurd h h', fun _ _ _ hk => absurd hk (Nat.not_lt_zero _)⟩
/-- A field that is no Ref. -/
theorem DfsI.pass {g : Gr} {M Mi : List Int} {o : Ob} {i : Nat} {f : Fld} (h : DfsI g M Mi o i) (hf : (fldsG g.1 o.2.1)[i]? = some f) (h5 : f.2.1 ≠ 5) : DfsI g M Mi o (i + 1) :=
  ⟨h.more, h.only, h.shut, fun k f' v hk hf' hv h5' hr => by
    by_cases hki : k < i
    · exact h.refs k f' v hki hf' hv h5' hr
    · obtain rfl : k = i := by omega
      rw [hf] at hf'
      injection hf' with e
      subst e
      exact absurd h5' h5⟩
/-- A Ref that was gone along. -/
theorem DfsI.step {g : Gr} {M Mi Mj : List Int} {o : Ob} {i : Nat} {f : Fld} {v : Vl} (h : DfsI g M Mi o i) (ho : o ∈ g.2.1) (hf : (fldsG g.1 o.2.1)[i]? = some f) (hv : o.2.2[i]? = some v) (h5 : f.2.1 = 5) (hd : Dfs g Mi Mj v.2.2) : DfsI g M Mj o (i + 1) := by
  refine ⟨fun x hx => hd.more x (h.more x hx), fun x hx hn => ?_, fun x hx hn p hp hpx r hr => ?_, fun k f' v' hk hf' hv' h5' hr => ?_⟩
  · by_cases hi : x ∈ Mi
    · exact h.only x hi hn
    · obtain ⟨h1, h2⟩ := hd.only x hx hi
      exact (From.step .here ho (refsG_mem.2 ⟨i, f, v, hf, hv, h5, h1, rfl⟩)).trans h2
  · by_cases hi : x ∈ Mi
    · exact hd.more r (h.shut x hi hn p hp hpx r hr)
    · exact hd.shut x hx hi p hp hpx r hr
  · by_cases hki : k < i
    · exact hd.more _ (h.refs k f' v' hki hf' hv' h5' hr)
    · obtain rfl : k = i := by omega
      rw [hv] at hv'
      injection hv' with e
      subst e
      exact hd.this hr
/-- All fields: where ids tell objects apart. -/
theorem DfsI.all {g : Gr} {M Mi : List Int} {o : Ob} {i : Nat} (h : DfsI g M Mi o i) (ho : o ∈ g.2.1) (hi : o.2.2.length ≤ i) (hn : o.1 ≠ -1) (hu : ∀ p ∈ g.2.1, p.1 = o.1 → p = o) : Dfs g M Mi o.1 := by
  refine ⟨fun x hx => h.more x (List.mem_append_left _ hx), fun _ => h.more _ (by simp), fun x hx hm => ⟨hn, ?_⟩, fun x hx hm p hp hpx r hr => ?_⟩
  · by_cases he : x = o.1
    · subst he; exact .here
    · exact h.only x hx (by simp [hm, he])
  · by_cases he : x = o.1
    · subst he
      obtain rfl := hu p hp hpx
      obtain ⟨k, f, v, h1, h2, h3, h4, h5⟩ := refsG_mem.1 hr
      rw [← h5]
      exact h.refs k f v (Nat.lt_of_lt_of_le (List.getElem?_eq_some_iff.1 h2).1 hi) h1 h2 h3 h4
    · exact h.shut x hx (by simp [hm, he]) p hp hpx r hr
/-- How many objects were not come to. -/
def cntG (os : List Ob) (M : List Int) : Nat := (os.filter fun o => decide (o.1 ∉ M)).length
theorem cntG_cons (p : Ob) (os : List Ob) (M : List Int) : cntG (p :: os) M = (if p.1 ∈ M then 0 else 1) + cntG os M := by
  unfold cntG
  rw [List.filter_cons]
  by_cases h : p.1 ∈ M
  · simp [h]
  · simp [h]; omega
theorem cntG_le {os : List Ob} {M M' : List Int} (h : ∀ x ∈ M, x ∈ M') : cntG os M' ≤ cntG os M := by
  induction os with
  | nil => simp [cntG]
  | cons o os ih =>
    rw [cntG_cons, cntG_cons]
    by_cases h1 : o.1 ∈ M
    · rw [if_pos h1, if_pos (h _ h1)]; omega
    · rw [if_neg h1]; split <;> omega
theorem cntG_lt {os : List Ob} {M : List Int} {o : Ob} (ho : o ∈ os) (hn : o.1 ∉ M) : cntG os (M ++ [o.1]) + 1 ≤ cntG os M := by
  induction os with
  | nil => simp at ho
  | cons p os ih =>
    have hle := cntG_le (os := os) (M := M) (M' := M ++ [o.1]) fun x hx => List.mem_append_left _ hx
    rw [cntG_cons, cntG_cons]
    rcases List.mem_cons.1 ho with h | h
    · subst h
      rw [if_pos (by simp), if_neg hn]; omega
    · have := ih h
      by_cases h3 : p.1 ∈ M
      · rw [if_pos (List.mem_append_left _ h3), if_pos h3]; omega
      · rw [if_neg h3]; split <;> omega
/-- Through all roots. -/
structure DfsR (g : Gr) (M : List Int) (i : Nat) : Prop where
  only : ∀ x ∈ M, ComeG g x
  shut : ∀ x ∈ M, ∀ o ∈ g.2.1, o.1 = x → ∀ r ∈ refsG g.1 o, r ∈ M
  roots : ∀ (k : Nat) (r : Int), k < i → g.2.2[k]? = some r → r ≠ -1 → r ∈ M
theorem DfsR.start (g : Gr) : DfsR g [] 0 := ⟨fun _ h => by simp at h, fun _ h => by simp at h, fun _ _ h => absurd h (Nat.not_lt_zero _)⟩
theorem DfsR.step {g : Gr} {M M' : List Int} {i : Nat} {r : Int} (h : DfsR g M i) (hr : g.2.2[i]? = some r) (hd : Dfs g M M' r) : DfsR g M' (i + 1) := by
  refine ⟨fun x hx => ?_, fun x hx o ho hox s hs => ?_, fun k s hk hs hn => ?_⟩
  · by_cases hm : x ∈ M
    · exact h.only x hm
    · obtain ⟨h1, h2⟩ := hd.only x hx hm
      exact ⟨r, List.mem_of_getElem? hr, h1, h2⟩
  · by_cases hm : x ∈ M
    · exact hd.more s (h.shut x hm o ho hox s hs)
    · exact hd.shut x hx hm o ho hox s hs
  · by_cases hki : k < i
    · exact hd.more s (h.roots k s hki hs hn)
    · obtain rfl : k = i := by omega
      rw [hr] at hs
      injection hs with e
      subst e
      exact hd.this hn
theorem DfsR.all {g : Gr} {M : List Int} {i : Nat} (h : DfsR g M i) (hi : g.2.2.length ≤ i) (x : Int) : x ∈ M ↔ ComeG g x := by
  refine ⟨h.only x, ?_⟩
  rintro ⟨id, hid, hn, hf⟩
  induction hf with
  | here =>
    obtain ⟨k, hk⟩ := List.getElem?_of_mem hid
    exact h.roots k _ (Nat.lt_of_lt_of_le (List.getElem?_eq_some_iff.1 hk).1 hi) hk hn
  | step _ ho hr ih => exact h.shut _ ih _ ho rfl _ hr
/-- Of a graph that may be: its objects. -/
theorem riseG_mem {g : Gr} : ∀ {last : Int} {l : List Ob}, riseG g last l = true → ∀ o ∈ l, last < o.1 ∧ o.1 ≤ 1073741824 ∧ mayO g o = true
  | _, [], _, o, ho => by simp at ho
  | last, p :: r, h, o, ho => by
    rw [riseG, Bool.and_eq_true, Bool.and_eq_true, Bool.and_eq_true, decide_eq_true_eq, decide_eq_true_eq] at h
    obtain ⟨⟨⟨h1, h2⟩, h3⟩, h4⟩ := h
    rcases List.mem_cons.1 ho with e | ho
    · subst e; exact ⟨h1, h2, h3⟩
    · obtain ⟨h5, h6, h7⟩ := riseG_mem h4 o ho
      exact ⟨by omega, h6, h7⟩
theorem riseG_sorted {g : Gr} : ∀ {last : Int} {l : List Ob}, riseG g last l = true → l.Pairwise fun o p => o.1 < p.1
  | _, [], _ => List.Pairwise.nil
  | last, p :: r, h => by
    rw [riseG, Bool.and_eq_true] at h
    exact List.Pairwise.cons (fun o ho => (riseG_mem h.2 o ho).1) (riseG_sorted h.2)
theorem sorted_apart {l : List Ob} (h : l.Pairwise fun o p => o.1 < p.1) {o p : Ob} (ho : o ∈ l) (hp : p ∈ l) (e : o.1 = p.1) : o = p := by
  induction l with
  | nil => simp at ho
  | cons q l ih =>
    rw [List.pairwise_cons] at h
    rcases List.mem_cons.1 ho with e1 | ho1
    · rcases List.mem_cons.1 hp with e2 | hp1
      · rw [e1, e2]
      · have := h.1 p hp1; rw [e1] at e; omega
    · rcases List.mem_cons.1 hp with e2 | hp1
      · have := h.1 o ho1; rw [e2] at e; omega
      · exact ih h.2 ho1 hp1
structure MayObj (g : Gr) (o : Ob) : Prop where
  id0 : 0 ≤ o.1
  id1 : o.1 ≤ 1073741824
  t0 : 0 ≤ o.2.1
  t1 : o.2.1 < (g.1.length : Int)
  len : (fldsG g.1 o.2.1).length = o.2.2.length
  have' : ∀ (k : Nat) f v, (fldsG g.1 o.2.1)[k]? = some f → o.2.2[k]? = some v → haveG g f v = true
theorem mayG_parts {g : Gr} (h : mayG g = true) : mayS g.1 = true ∧ g.2.1.length ≤ 8 ∧ riseG g (-1) g.2.1 = true ∧ g.2.2.length ≤ 3 ∧ ∀ r ∈ g.2.2, rootG g.2.1 r = true := by
  rw [mayG, mayOs, mayRs] at h
  simp only [Bool.and_eq_true, decide_eq_true_eq, List.all_eq_true] at h
  exact ⟨h.1.1, h.1.2.1, h.1.2.2, h.2.1, h.2.2⟩
theorem mayO_iff {g : Gr} {o : Ob} : mayO g o = true ↔ (0 ≤ o.2.1 ∧ o.2.1 < (g.1.length : Int)) ∧ (fldsG g.1 o.2.1).length = o.2.2.length ∧ ∀ (k : Nat) f v, (fldsG g.1 o.2.1)[k]? = some f → o.2.2[k]? = some v → haveG g f v = true := by
  rw [mayO, Bool.and_eq_true, Bool.and_eq_true, decide_eq_true_eq, decide_eq_true_eq, all2_iff]
theorem mayG_obj {g : Gr} (h : mayG g = true) {o : Ob} (ho : o ∈ g.2.1) : MayObj g o := by
  obtain ⟨h1, h2, h3⟩ := riseG_mem (mayG_parts h).2.2.1 o ho
  obtain ⟨h4, h5, h6⟩ := mayO_iff.1 h3
  exact ⟨by omega, h2, h4.1, h4.2, h5, h6⟩
theorem mayG_apart {g : Gr} (h : mayG g = true) {o p : Ob} (ho : o ∈ g.2.1) (hp : p ∈ g.2.1) (e : o.1 = p.1) : o = p := sorted_apart (riseG_sorted (mayG_parts h).2.2.1) ho hp e
theorem haveG_ref {g : Gr} {f : Fld} {v : Vl} (h : haveG g f v = true) (h5 : f.2.1 = 5) (hr : v.2.2 ≠ -1) : findG g.2.1 v.2.2 ≠ -1 ∧ typG g.2.1 v.2.2 = findS g.1 f.2.2 := by
  rw [haveG] at h
  simp only [h5, ne_eq, not_true_eq_false, decide_false, Bool.false_or, hr, Bool.and_eq_true, decide_eq_true_eq] at h
  exact ⟨by simpa using h.2.1, h.2.2⟩
end Go.Proofs.Ytembafogbfcajaa
