/- Schemas that may be, told by what stands in them: names that are there once. One type more, a field more, a type less. Over no program. No condition. -/
import Derived.Test.YtomndfeifjiljaaDoorScPlain
namespace Go.Proofs.YtomndfeifjiljaaDoor

/-- Each stands where it is found first, just if none is there twice. -/
theorem idx_nodup {α : Type} (g : α → List Nat) (l : List α) : (∀ (i : Nat) (a : α), l[i]? = some a → idxP (fun b => decide (g b = g a)) l = (i : Int)) ↔ (l.map g).Nodup := by
  rw [List.nodup_iff_pairwise_ne, List.pairwise_iff_getElem]
  constructor
  · intro h i j hi hj hij e
    rw [List.length_map] at hi hj
    rw [List.getElem_map, List.getElem_map] at e
    have h1 := ((idxP_iff _ _ _).1 (h j l[j] (List.getElem?_eq_getElem hj))).2 i l[i] hij (List.getElem?_eq_getElem hi)
    rw [decide_eq_true e] at h1
    cases h1
  · intro h i a ha
    obtain ⟨hi, rfl⟩ := List.getElem?_eq_some_iff.1 ha
    refine (idxP_iff _ _ _).2 ⟨⟨l[i], ha, decide_eq_true rfl⟩, fun j b hj hb => decide_eq_false fun e => ?_⟩
    obtain ⟨hj', rfl⟩ := List.getElem?_eq_some_iff.1 hb
    refine h j i (by simpa using hj') (by simpa using hi) hj ?_
    rw [List.getElem_map, List.getElem_map]
    exact e
def okL (ns : List (List Nat)) (f : Fld) : Prop := (f.2.1 = 5 ∧ f.2.2 ∈ ns) ∨ (f.2.1 ≠ 5 ∧ (0 ≤ f.2.1 ∧ f.2.1 < 6) ∧ f.2.2 = [])
def okT (ns : List (List Nat)) (t : Typ) : Prop := mayN t.1 = true ∧ t.2.length ≤ 5 ∧ (t.2.map (·.1)).Nodup ∧ ∀ f ∈ t.2, mayN f.1 = true ∧ okL ns f
def names (s : Sch) : List (List Nat) := s.map (·.1)
theorem leadS_iff (s : Sch) (f : Fld) : leadS s f = true ↔ okL (names s) f := by
  rw [leadS, okL]
  by_cases h : f.2.1 = 5
  · rw [if_pos h, decide_eq_true_iff]
    constructor
    · intro h0
      obtain ⟨t, ht, hn⟩ := findS_some h0
      exact .inl ⟨h, List.mem_map.2 ⟨t, ht, hn⟩⟩
    · rintro (⟨_, h1⟩ | ⟨h1, _⟩)
      · obtain ⟨t, ht, hn⟩ := List.mem_map.1 h1
        exact findS_ge ht hn
      · exact absurd h h1
  · rw [if_neg h, Bool.and_eq_true, Bool.and_eq_true, decide_eq_true_iff, decide_eq_true_iff, decide_eq_true_iff]
    constructor
    · intro h1; exact .inr ⟨h, h1⟩
    · rintro (⟨h1, _⟩ | ⟨_, h1⟩)
      · exact absurd h1 h
      · exact h1
theorem mayS_set (s : Sch) : mayS s = true ↔ (1 ≤ s.length ∧ s.length ≤ 4) ∧ (names s).Nodup ∧ ∀ t ∈ s, okT (names s) t := by
  rw [mayS_iff]
  refine and_congr_right fun _ => ?_
  have hT : ∀ i t, mayT s i t = true ↔ (idxP (fun b : Typ => decide (b.1 = t.1)) s = (i : Int)) ∧ okT (names s) t := fun i t => by
    rw [mayT_iff, okT, findS]
    have hF : (∀ j f, t.2[j]? = some f → mayF s t.2 j f = true) ↔ (t.2.map (·.1)).Nodup ∧ ∀ f ∈ t.2, mayN f.1 = true ∧ okL (names s) f := by
      rw [← idx_nodup (fun f : Fld => f.1) t.2]
      constructor
      · intro h
        refine ⟨fun j f hf => ((mayF_iff s t.2 j f).1 (h j f hf)).2.1, fun f hf => ?_⟩
        obtain ⟨j, hj⟩ := List.getElem?_of_mem hf
        obtain ⟨h1, _, h2⟩ := (mayF_iff s t.2 j f).1 (h j f hj)
        exact ⟨h1, (leadS_iff s f).1 h2⟩
      · rintro ⟨h1, h2⟩ j f hf
        obtain ⟨h3, h4⟩ := h2 f (List.mem_of_getElem? hf)
        exact (mayF_iff s t.2 j f).2 ⟨h3, h1 j f hf, (leadS_iff s f).2 h4⟩
    rw [hF]
    constructor
    · rintro ⟨h1, h2, h3, h4, h5⟩; exact ⟨h2, h1, h3, h4, h5⟩
    · rintro ⟨h2, h1, h3, h4, h5⟩; exact ⟨h1, h2, h3, h4, h5⟩
  rw [names, ← idx_nodup (fun t : Typ => t.1) s]
  constructor
  · intro h
    refine ⟨fun i t ht => ((hT i t).1 (h i t ht)).1, fun t ht => ?_⟩
    obtain ⟨j, hj⟩ := List.getElem?_of_mem ht
    exact ((hT j t).1 (h j t hj)).2
  · rintro ⟨h1, h2⟩ i t ht
    exact (hT i t).2 ⟨h1 i t ht, h2 t (List.mem_of_getElem? ht)⟩
theorem okL_mono {ns ms : List (List Nat)} {f : Fld} (h : okL ns f) (hs : ∀ n ∈ ns, n ∈ ms) : okL ms f := by
  rcases h with ⟨h1, h2⟩ | h
  · exact .inl ⟨h1, hs _ h2⟩
  · exact .inr h
theorem okT_mono {ns ms : List (List Nat)} {t : Typ} (h : okT ns t) (hs : ∀ n ∈ ns, n ∈ ms) : okT ms t :=
  ⟨h.1, h.2.1, h.2.2.1, fun f hf => ⟨(h.2.2.2 f hf).1, okL_mono (h.2.2.2 f hf).2 hs⟩⟩

/-- The new name. -/
def fresh : List Nat := [122, 122, 122, 122, 57, 57, 57, 57]
theorem may_fresh : mayN fresh = true := by decide +kernel
theorem findS_neg {s : Sch} {n : List Nat} (h : findS s n < 0) : n ∉ names s := fun hm => by
  obtain ⟨t, ht, hn⟩ := List.mem_map.1 hm
  have := findS_ge ht hn
  omega
theorem fieldS_neg {l : List Fld} {n : List Nat} (h : fieldS l n < 0) : n ∉ l.map (·.1) := fun hm => by
  obtain ⟨t, ht, hn⟩ := List.mem_map.1 hm
  have := (idxP_ge (fun x : Fld => decide (x.1 = n)) l).2 ⟨t, ht, by simpa using hn⟩
  exact absurd this (by show ¬ 0 ≤ fieldS l n; omega)
/-- One type more. -/
theorem may_more {x : Sch} (h : mayS x = true) (hf : findS x fresh < 0) : mayS (x ++ [(fresh, [])]) = decide (x.length < 4) := by
  obtain ⟨hl, hn, ht⟩ := (mayS_set x).1 h
  have hnm : names (x ++ [(fresh, [])]) = names x ++ [fresh] := by simp [names]
  by_cases h4 : x.length < 4
  · rw [decide_eq_true h4]
    refine (mayS_set _).2 ⟨by simp; omega, ?_, fun t htm => ?_⟩
    · rw [hnm, List.nodup_append]
      refine ⟨hn, by simp, fun a ha b hb => ?_⟩
      simp at hb
      subst hb
      rintro rfl
      exact findS_neg hf ha
    · rw [hnm]
      rcases List.mem_append.1 htm with h1 | h1
      · exact okT_mono (ht t h1) fun n hn => by simp [hn]
      · simp at h1
        subst h1
        exact ⟨may_fresh, by simp, by simp, by simp⟩
  · rw [decide_eq_false h4]
    cases hm : mayS (x ++ [(fresh, [])])
    · rfl
    · have := ((mayS_set _).1 hm).1.2
      simp at this
      omega
/-- A field more. -/
def wideS (x : Sch) (i : Nat) (t : Typ) : Sch := x.set i (t.1, t.2 ++ [(fresh, 4, [])])
theorem names_wide {x : Sch} {i : Nat} {t : Typ} (hi : x[i]? = some t) : names (wideS x i t) = names x := by
  apply List.ext_getElem?
  intro j
  rw [names, names, wideS, List.getElem?_map, List.getElem?_map, List.getElem?_set]
  by_cases hj : i = j
  · subst hj
    obtain ⟨hlt, he⟩ := List.getElem?_eq_some_iff.1 hi
    simp [hlt, he]
  · simp [hj]
theorem may_wide {x : Sch} (h : mayS x = true) {i : Nat} {t : Typ} (hi : x[i]? = some t) (hf : fieldS t.2 fresh < 0) : mayS (wideS x i t) = decide (t.2.length < 5) := by
  obtain ⟨hl, hn, ht⟩ := (mayS_set x).1 h
  have hlen : (wideS x i t).length = x.length := by simp [wideS]
  have htm := List.mem_of_getElem? hi
  have hlt := (List.getElem?_eq_some_iff.1 hi).1
  by_cases h5 : t.2.length < 5
  · rw [decide_eq_true h5]
    refine (mayS_set _).2 ⟨by rw [hlen]; exact hl, by rw [names_wide hi]; exact hn, fun u hu => ?_⟩
    rw [names_wide hi]
    rcases List.mem_or_eq_of_mem_set hu with h1 | rfl
    · exact ht u h1
    · obtain ⟨a1, a2, a3, a4⟩ := ht t htm
      refine ⟨a1, by simp; omega, ?_, fun f hfm => ?_⟩
      · rw [List.map_append, List.nodup_append]
        refine ⟨a3, by simp, fun a ha b hb => ?_⟩
        simp at hb
        subst hb
        rintro rfl
        exact fieldS_neg hf ha
      · rcases List.mem_append.1 hfm with h1 | h1
        · exact a4 f h1
        · simp at h1
          subst h1
          exact ⟨may_fresh, .inr ⟨by simp, by simp, rfl⟩⟩
  · rw [decide_eq_false h5]
    cases hm : mayS (wideS x i t)
    · rfl
    · have := ((mayS_set _).1 hm).2.2 (t.1, t.2 ++ [(fresh, 4, [])]) (List.mem_set hlt _)
      have := this.2.1
      simp at this
      omega
/-- A type less. -/
def lessS (x : Sch) (i : Nat) : Sch := x.take i ++ x.drop (i + 1)
/-- Does a field lead to that name? -/
def leadF (n : List Nat) (f : Fld) : Bool := decide (f.2.1 = 5) && decide (f.2.2 = n)
def leadsTo (s : Sch) (n : List Nat) : Bool := s.any fun t => t.2.any (leadF n)
theorem may_less {x : Sch} (h : mayS x = true) {i : Nat} {t : Typ} (hi : x[i]? = some t) : mayS (lessS x i) = (decide (0 < (lessS x i).length) && !leadsTo (lessS x i) t.1) := by
  obtain ⟨hl, hn, ht⟩ := (mayS_set x).1 h
  obtain ⟨hlt, hti⟩ := List.getElem?_eq_some_iff.1 hi
  have hx : x = x.take i ++ t :: x.drop (i + 1) := by
    conv => lhs; rw [← List.take_append_drop i x, List.drop_eq_getElem_cons hlt, hti]
  have hnx : names x = names (x.take i) ++ t.1 :: names (x.drop (i + 1)) := by
    conv => lhs; rw [hx]
    simp [names]
  have hnl : names (lessS x i) = names (x.take i) ++ names (x.drop (i + 1)) := by simp [names, lessS]
  have hsub : ∀ u ∈ lessS x i, u ∈ x := fun u hu => by
    rw [hx]
    rcases List.mem_append.1 hu with h1 | h1
    · simp [h1]
    · simp [h1]
  have hlen : (lessS x i).length ≤ 4 := by rw [lessS, List.length_append, List.length_take, List.length_drop]; omega
  have hnd : (names (lessS x i)).Nodup ∧ t.1 ∉ names (lessS x i) := by
    rw [hnx, List.nodup_append, List.nodup_cons] at hn
    obtain ⟨h1, ⟨h2, h3⟩, h4⟩ := hn
    rw [hnl, List.nodup_append, List.mem_append]
    refine ⟨⟨h1, h3, fun a ha b hb => h4 a ha b (by simp [hb])⟩, ?_⟩
    rintro (h5 | h5)
    · exact h4 _ h5 _ (by simp) rfl
    · exact h2 h5
  have hmem : ∀ n, n ∈ names x → n ≠ t.1 → n ∈ names (lessS x i) := fun n h1 h2 => by
    rw [hnx, List.mem_append, List.mem_cons] at h1
    rw [hnl, List.mem_append]
    rcases h1 with h1 | h1 | h1
    · exact .inl h1
    · exact absurd h1 h2
    · exact .inr h1
  rw [Bool.eq_iff_iff, mayS_set, Bool.and_eq_true, decide_eq_true_iff, Bool.not_eq_true']
  constructor
  · rintro ⟨⟨h1, _⟩, _, h3⟩
    refine ⟨h1, ?_⟩
    rw [leadsTo, List.any_eq_false]
    intro u hu
    rw [Bool.not_eq_true, List.any_eq_false]
    intro f hf
    rw [leadF, Bool.not_eq_true, Bool.and_eq_false_iff, decide_eq_false_iff_not, decide_eq_false_iff_not]
    rcases ((h3 u hu).2.2.2 f hf).2 with ⟨_, h4⟩ | ⟨h4, _⟩
    · exact .inr fun e => hnd.2 (e ▸ h4)
    · exact .inl h4
  · rintro ⟨h1, h2⟩
    refine ⟨⟨h1, hlen⟩, hnd.1, fun u hu => ?_⟩
    obtain ⟨a1, a2, a3, a4⟩ := ht u (hsub u hu)
    refine ⟨a1, a2, a3, fun f hf => ⟨(a4 f hf).1, ?_⟩⟩
    rcases (a4 f hf).2 with ⟨h3, h4⟩ | h3
    · refine .inl ⟨h3, hmem _ h4 fun e => ?_⟩
      rw [leadsTo, List.any_eq_false] at h2
      have := h2 u hu
      rw [Bool.not_eq_true, List.any_eq_false] at this
      have := this f hf
      rw [leadF, decide_eq_true h3, decide_eq_true e] at this
      exact this rfl
    · exact .inr h3
end Go.Proofs.YtomndfeifjiljaaDoor
