/- A new object: by an Id that was not there; nothing comes to it, and all that was come to still is. No condition. -/
import Derived.Test.YtembafogbfcajaaGrStayPlain
namespace Go.Proofs.Ytembafogbfcajaa

theorem new_none {g : Gr} (hm : mayG g = true) : findG g.2.1 (nextG g.2.1) = -1 := by
  rcases Classical.em (findG g.2.1 (nextG g.2.1) = -1) with h | h
  · exact h
  · obtain ⟨o, ho, e⟩ := findG_mem.1 h
    have := nextG_above hm o ho
    omega
theorem new_last {g : Gr} {o : Ob} (hm : mayG g = true) (ho : o.1 = nextG g.2.1) : findG (g.2.1 ++ [o]) (nextG g.2.1) = (g.2.1.length : Int) := by
  refine (idxP_iff _ _ g.2.1.length).2 ⟨⟨o, by simp, decide_eq_true ho⟩, fun j p hj hp => ?_⟩
  rw [List.getElem?_append_left hj] at hp
  have := nextG_above hm p (List.mem_of_getElem? hp)
  exact decide_eq_false (by omega)
theorem new_from {g : Gr} {o : Ob} (hm : mayG g = true) (ho : o.1 = nextG g.2.1) {id x : Int} (hid : ∃ p ∈ g.2.1, p.1 = id) (h : From (g.1, g.2.1 ++ [o], g.2.2) id x) : From g id x ∧ ∃ p ∈ g.2.1, p.1 = x := by
  induction h with
  | here => exact ⟨.here, hid⟩
  | step hf hq hr ih =>
    rename_i q r
    obtain ⟨h1, p, hp, e⟩ := ih
    have hq' : q ∈ g.2.1 := by
      rcases List.mem_append.1 hq with h | h
      · exact h
      · simp at h
        subst h
        have := nextG_above hm p hp
        omega
    have hr' : r ∈ refsG g.1 q := hr
    refine ⟨.step h1 hq' hr', ?_⟩
    obtain ⟨k, f, v, a1, a2, a3, a4, rfl⟩ := refsG_mem.1 hr'
    exact findG_mem.1 (haveG_ref ((mayG_obj hm hq').have' k f v a1 a2) a3 a4).1
theorem new_come {g : Gr} {o : Ob} (hm : mayG g = true) (ho : o.1 = nextG g.2.1) (x : Int) : ComeG (g.1, g.2.1 ++ [o], g.2.2) x ↔ ComeG g x := by
  constructor
  · rintro ⟨id, h1, h2, h3⟩
    have := (mayG_parts hm).2.2.2.2 id h1
    rw [rootG, Bool.or_eq_true, decide_eq_true_eq, decide_eq_true_eq] at this
    exact ⟨id, h1, h2, (new_from hm ho (findG_mem.1 (this.resolve_left h2)) h3).1⟩
  · rintro ⟨id, h1, h2, h3⟩
    refine ⟨id, h1, h2, ?_⟩
    induction h3 with
    | here => exact .here
    | step _ hq hr ih => exact .step ih (List.mem_append_left _ hq) hr
theorem new_reach {g : Gr} {t : Int} (h : newE g t = 0) : (reachG (newG g t)).length = (reachG g).length := by
  obtain ⟨hm, -, -, -⟩ := newE_0 h
  have hmn := newG_may h
  rw [newG, if_pos h] at hmn ⊢
  rw [reachG, reachG, List.length_map, List.length_map, sweepG_yes hm, sweepG_yes hmn]
  show (List.filter _ (g.2.1 ++ _)).length = (List.filter _ g.2.1).length
  rw [List.filter_append, List.length_append]
  have e1 : g.2.1.filter (fun o => @decide (ComeG (g.1, g.2.1 ++ [((nextG g.2.1, t, (fldsG g.1 t).map fun f => zeroV f.2.1) : Ob)], g.2.2) o.1) (Classical.propDecidable _)) = g.2.1.filter (fun o => @decide (ComeG g o.1) (Classical.propDecidable _)) :=
    List.filter_congr fun o _ => by simp [new_come hm]
  have e2 : ([((nextG g.2.1, t, (fldsG g.1 t).map fun f => zeroV f.2.1) : Ob)] : List Ob).filter (fun o => @decide (ComeG (g.1, g.2.1 ++ [((nextG g.2.1, t, (fldsG g.1 t).map fun f => zeroV f.2.1) : Ob)], g.2.2) o.1) (Classical.propDecidable _)) = [] := by
    refine List.filter_eq_nil_iff.2 fun o ho => ?_
    simp at ho
    subst ho
    simp only [decide_eq_true_eq, new_come hm]
    intro hc
    obtain ⟨p, hp, e⟩ := come_is hm hc
    have := nextG_above hm p hp
    have e' : p.1 = nextG g.2.1 := e
    omega
  rw [e1, e2]
  rfl
/-- Why there is none. -/
theorem new_why {g : Gr} {t : Int} (hm : mayG g = true) (ht : 0 ≤ t ∧ t < (g.1.length : Int)) (h : newE g t ≠ 0) : g.2.1.length = 8 ∨ ∃ o, g.2.1[g.2.1.length - 1]? = some o ∧ o.1 = 1073741824 := by
  rw [newE, if_pos hm, if_pos (by simp [ht])] at h
  split at h
  · rename_i h1
    rcases h1 with h1 | h1
    · exact .inl h1
    · refine .inr ?_
      by_cases h0 : g.2.1 = []
      · rw [h0, nextG_nil] at h1; omega
      · obtain ⟨q, hq⟩ : ∃ q, g.2.1[g.2.1.length - 1]? = some q := ⟨_, List.getElem?_eq_getElem (by have := List.length_pos_iff.2 h0; omega)⟩
        rw [nextG_last hq] at h1
        have := (mayG_obj hm (List.mem_of_getElem? hq)).id1
        exact ⟨q, hq, by omega⟩
  · exact absurd rfl h
theorem new_type {g : Gr} {t : Int} (hm : mayG g = true) (ht : ¬ (0 ≤ t ∧ t < (g.1.length : Int))) : newE g t = 6 := by
  rw [newE, if_pos hm, if_neg (by simpa using ht)]
end Go.Proofs.Ytembafogbfcajaa
