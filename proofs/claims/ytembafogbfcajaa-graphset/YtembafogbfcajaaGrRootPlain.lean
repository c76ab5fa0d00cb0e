/- More roots, no roots: what may be, and what is come to. No condition. -/
import Derived.Test.YtembafogbfcajaaGrTame
import Derived.Test.YtembafogbfcajaaGrRoot
namespace Go.Proofs.Ytembafogbfcajaa

theorem riseG_roots (g : Gr) (l : List Int) : ∀ (last : Int) (os : List Ob), riseG (g.1, g.2.1, l) last os = riseG g last os
  | _, [] => rfl
  | last, o :: os => by rw [riseG, riseG, riseG_roots g l o.1 os]; rfl
theorem mayG_roots {g : Gr} {l : List Int} (h : mayG g = true) (hl : l.length ≤ 3) (hr : ∀ r ∈ l, rootG g.2.1 r = true) : mayG (g.1, g.2.1, l) = true := by
  obtain ⟨m1, m2, m3, -, -⟩ := mayG_parts h
  rw [mayG, mayOs, mayRs]
  simp only [Bool.and_eq_true, decide_eq_true_eq, List.all_eq_true]
  exact ⟨⟨m1, m2, by rw [riseG_roots]; exact m3⟩, hl, hr⟩
theorem rootN_may {g : Gr} {i id : Int} (h : rootE g i id = 0) : mayG (rootN g i id) = true := by
  obtain ⟨hm, h0, h3, hK, hr⟩ := rootE_0 h
  have hp := (mayG_parts hm).2.2.2
  rw [rootN, if_pos h]
  refine mayG_roots hm ?_ ?_
  · split
    · rw [List.length_append, List.length_singleton]; omega
    · rw [List.length_set]; exact hp.1
  · intro r hr'
    split at hr'
    · rcases List.mem_append.1 hr' with h1 | h1
      · exact hp.2 r h1
      · simp at h1; subst h1; exact hr
    · rcases List.mem_or_eq_of_mem_set hr' with h1 | h1
      · exact hp.2 r h1
      · subst h1; exact hr
theorem from_roots {g : Gr} {l : List Int} {id x : Int} (h : From g id x) : From (g.1, g.2.1, l) id x := by
  induction h with
  | here => exact .here
  | step _ ho hr ih => exact .step ih ho hr
theorem come_roots {g : Gr} {l : List Int} {x : Int} (h : ComeG g x) (hl : ∀ r ∈ g.2.2, r ∈ l) : ComeG (g.1, g.2.1, l) x := by
  obtain ⟨id, hid, hn, hf⟩ := h
  exact ⟨id, hl id hid, hn, from_roots hf⟩
theorem reach_none {g : Gr} : reachG (g.1, g.2.1, []) = [] := by
  rw [reachG]
  by_cases h : mayG (g.1, g.2.1, []) = true
  · rw [sweepG_yes h]
    have : (g.1, g.2.1, ([] : List Int)).2.1.filter (fun o => @decide (ComeG (g.1, g.2.1, []) o.1) (Classical.propDecidable _)) = [] := List.filter_eq_nil_iff.2 fun o _ => by
      simp only [decide_eq_true_eq]
      rintro ⟨id, hid, -⟩
      cases hid
    rw [this]; rfl
  · rw [sweepG_no (by simpa using h)]; rfl
theorem reach_mono {g h : Gr} (hg : mayG g = true) (hh : mayG h = true) (he : h.2.1 = g.2.1) (hc : ∀ x, ComeG g x → ComeG h x) : (reachG g).length ≤ (reachG h).length := by
  rw [reachG, reachG, List.length_map, List.length_map, sweepG_yes hg, sweepG_yes hh]
  show (List.filter _ g.2.1).length ≤ (List.filter _ h.2.1).length
  rw [he, ← List.countP_eq_length_filter, ← List.countP_eq_length_filter]
  exact List.countP_mono_left fun o _ ho => by simp only [decide_eq_true_eq] at ho ⊢; exact hc _ ho
theorem reach_mem {g : Gr} (hg : mayG g = true) {x : Int} : x ∈ reachG g ↔ ComeG g x ∧ ∃ o ∈ g.2.1, o.1 = x := by
  rw [reachG, sweepG_yes hg, List.mem_map]
  simp only [List.mem_filter, decide_eq_true_eq]
  constructor
  · rintro ⟨o, ⟨h1, h2⟩, rfl⟩
    exact ⟨h2, o, h1, rfl⟩
  · rintro ⟨h1, o, h2, rfl⟩
    exact ⟨o, ⟨h2, h1⟩, rfl⟩
theorem root_more {g : Gr} {id : Int} (h : rootE g (g.2.2.length : Int) id = 0) : (reachG g).length ≤ (reachG (rootN g (g.2.2.length : Int) id)).length := by
  have hm := rootN_may h
  rw [rootN, if_pos h, if_pos rfl] at hm ⊢
  exact reach_mono (rootE_0 h).1 hm rfl fun x hx => come_roots hx fun r hr => List.mem_append_left _ hr
theorem root_here {g : Gr} {i id : Int} (h : rootE g i id = 0) (hid : 0 ≤ id) : id ∈ reachG (rootN g i id) := by
  obtain ⟨hm, h0, h3, hK, hr⟩ := rootE_0 h
  rw [rootG, Bool.or_eq_true, decide_eq_true_eq, decide_eq_true_eq] at hr
  obtain ⟨o, ho, he⟩ := findG_mem.1 (hr.resolve_left (by omega))
  rw [reach_mem (rootN_may h)]
  rw [rootN, if_pos h]
  refine ⟨⟨id, ?_, by omega, .here⟩, o, ho, he⟩
  show id ∈ (if i = (g.2.2.length : Int) then g.2.2 ++ [id] else g.2.2.set i.toNat id)
  split
  · simp
  · exact List.mem_set (by omega) _
end Go.Proofs.Ytembafogbfcajaa
